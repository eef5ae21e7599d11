import PyProof.Rows.All
import Wide.All
import OpenK.AllK
import Wide.FinOn
import PySem.Challenge.RW_braidwords_k01_limits_and_errors
import HandS.ForMost
import HandS.ForExc
import HandS.CallSlots
import HandS.Lambda
import HandS.TupAny
import HandS.IsInst
import HandS.Flow
import HandS.More
import HandS.FStr
import KE.KExcIs
import HandS.ExcInit
import HandS.Property
import HandS.MakeKwOnly
import HandS.Small
import HandS.ClsMeth
import HandS.Defaults
import KE.KExcInit
import HandS.ExcField
import KE.KTryMore
import PyProof.ReprRoads
import PyProof.CallFns
import HandS.Ends
import KE.KExcSuper
import PyProof.ReprLen
import PyProof.FitsInt
import KE.KExcLine
import KE.RegKIsAll
import KE.RegKTryMore
import KE.RegKSuper
set_option Elab.async false
set_option linter.all false
set_option maxRecDepth 100000
set_option maxHeartbeats 4000000
/-! DL1: a layer of plain data over HandS. A value in the heap stands for a datum D; slots hold data; the code is read as a function of data. -/
namespace DL
open PySem PySem.Spec PyProof.Rows L2

/-- plain data: what a value stands for (rol: a list that is only read: the script, a list of the module) -/
inductive D where
  | non | bl (b : Bool) | int (i : Int) | str (x : Str)
  | lst (ds : List D) | rol (ds : List D) | tup (ds : List D) | dct (kvs : List (Key × D))
  | ob (c : Str) (fs : List (Str × D)) | ex (c : Str) (fs : List (Str × D))
  /-- a built-in type, a class of the text -/
  | ty (n : String) | cl (c : Str)

/-- an exception that is kept: its class at C, its own dict at d -/
def exv (a C d : Addr) : HO := .ext fun h => ∃ (oe : Obj) (vs : Array Value), h.get? a = some oe ∧ oe.cls = .ref C ∧ oe.dict = some d ∧ oe.data = .fields vs

/-- .. that has no dict -/
def exn (a C : Addr) : HO := .ext fun h => ∃ (oe : Obj) (vs : Array Value), h.get? a = some oe ∧ oe.cls = .ref C ∧ oe.dict = none ∧ oe.data = .fields vs

section
variable (K : PySem.W.Frag) (mg : Str → Option Value) (F : Hp)
mutual
inductive Dt : V → D → Prop
  | non : Dt .non .non
  | bl (b : Bool) : Dt (.bl b) (.bl b)
  | int (i : Int) : Dt (.int i) (.int i)
  | str (x : Str) : Dt (.str x) (.str x)
  | lst {a : Addr} {xs : List V} {ds : List D} (h : F a = some (.lst xs)) (t : Dts xs ds) : Dt (.ref a) (.lst ds)
  | rol {a : Addr} {xs : List V} {ds : List D} (h : SqL K F a xs) (t : Dts xs ds) : Dt (.ref a) (.rol ds)
  | tup {a : Addr} {xs : List V} {ds : List D} (h : SqT K F a xs) (t : Dts xs ds) : Dt (.ref a) (.tup ds)
  | dct {a : Addr} {kvs : List (Key × V)} {kds : List (Key × D)} (h : F a = some (.dK kvs)) (k : kvs.map (·.1) = kds.map (·.1)) (t : Dts (kvs.map (·.2)) (kds.map (·.2))) : Dt (.ref a) (.dct kds)
  | ob {a C dx : Addr} {c : Str} {fs : List (Str × V)} {ds : List (Str × D)} (m : mg c = some (.ref C)) (h : F a = some (.ins C dx fs)) (k : fs.map (·.1) = ds.map (·.1)) (t : Dts (fs.map (·.2)) (ds.map (·.2))) : Dt (.ref a) (.ob c ds)
  | ty (n : String) : Dt (.ty n) (.ty n)
  | cl {C : Addr} {c : Str} (m : mg c = some (.ref C)) : Dt (.ref C) (.cl c)
  | ex {a C d : Addr} {c : Str} {fs : List (Str × V)} {ds : List (Str × D)} (m : mg c = some (.ref C)) (h : F a = some (exv a C d)) (hd : F d = some (.xd fs)) (k : fs.map (·.1) = ds.map (·.1)) (t : Dts (fs.map (·.2)) (ds.map (·.2))) : Dt (.ref a) (.ex c ds)
  | ex0 {a C : Addr} {c : Str} (m : mg c = some (.ref C)) (h : F a = some (exn a C)) : Dt (.ref a) (.ex c [])
inductive Dts : List V → List D → Prop
  | nil : Dts [] []
  | cons {v : V} {vs : List V} {d : D} {ds : List D} (h : Dt v d) (t : Dts vs ds) : Dts (v :: vs) (d :: ds)
end
end

def Le (F F' : Hp) : Prop := ∀ a o, F a = some o → F' a = some o
theorem Le.refl (F : Hp) : Le F F := fun _ _ h => h
theorem Le.trans {F G H : Hp} (a : Le F G) (b : Le G H) : Le F H := fun c o h => b c o (a c o h)
section
variable {K : PySem.W.Frag} {mg : Str → Option Value} {F F' : Hp}
theorem SqL.le {a : Addr} {xs : List V} (l : Le F F') (h : SqL K F a xs) : SqL K F' a xs := by
  rcases h with (h | ⟨o, h⟩) | h
  · exact .inl (.inl (l _ _ h))
  · exact .inl (.inr ⟨o, l _ _ h⟩)
  · exact .inr h
theorem SqT.le {a : Addr} {xs : List V} (l : Le F F') (h : SqT K F a xs) : SqT K F' a xs := by
  rcases h with (h | ⟨o, h⟩) | h
  · exact .inl (.inl (l _ _ h))
  · exact .inl (.inr ⟨o, l _ _ h⟩)
  · exact .inr h
mutual
theorem Dt.le (l : Le F F') : ∀ {v : V} {d : D}, Dt K mg F v d → Dt K mg F' v d
  | _, _, .non => .non
  | _, _, .bl b => .bl b
  | _, _, .int i => .int i
  | _, _, .str x => .str x
  | _, _, .lst h t => .lst (l _ _ h) (t.le l)
  | _, _, .rol h t => .rol (SqL.le l h) (t.le l)
  | _, _, .tup h t => .tup (SqT.le l h) (t.le l)
  | _, _, .dct h k t => .dct (l _ _ h) k (t.le l)
  | _, _, .ob m h k t => .ob m (l _ _ h) k (t.le l)
  | _, _, .ex m h hd k t => .ex m (l _ _ h) (l _ _ hd) k (t.le l)
  | _, _, .ex0 m h => .ex0 m (l _ _ h)
  | _, _, .ty n => .ty n
  | _, _, .cl m => .cl m
theorem Dts.le (l : Le F F') : ∀ {vs : List V} {ds : List D}, Dts K mg F vs ds → Dts K mg F' vs ds
  | _, _, .nil => .nil
  | _, _, .cons h t => .cons (h.le l) (t.le l)
end
theorem Dts.length : ∀ {vs : List V} {ds : List D}, Dts K mg F vs ds → vs.length = ds.length
  | _, _, .nil => rfl
  | _, _, .cons _ t => congrArg (· + 1) t.length
theorem Dts.append : ∀ {vs ws : List V} {ds es : List D}, Dts K mg F vs ds → Dts K mg F ws es → Dts K mg F (vs ++ ws) (ds ++ es)
  | _, _, _, _, .nil, r => r
  | _, _, _, _, .cons h t, r => .cons h (t.append r)
theorem Dts.get : ∀ {vs : List V} {ds : List D} {i : Nat} {d : D}, Dts K mg F vs ds → ds[i]? = some d → ∃ v, vs[i]? = some v ∧ Dt K mg F v d
  | _, _, _, _, .nil, e => by simp at e
  | _, _, 0, _, .cons h _, e => by simp at e; subst e; exact ⟨_, rfl, h⟩
  | _, _, i + 1, d, .cons _ t, e => by
    obtain ⟨v, h1, h2⟩ := Dts.get (i := i) (d := d) t (by simpa using e)
    exact ⟨v, by simpa using h1, h2⟩
theorem Dts.getV : ∀ {vs : List V} {ds : List D} {i : Nat} {v : V}, Dts K mg F vs ds → vs[i]? = some v → ∃ d, ds[i]? = some d ∧ Dt K mg F v d
  | _, _, _, _, .nil, e => by simp at e
  | _, _, 0, _, .cons h _, e => by simp at e; subst e; exact ⟨_, rfl, h⟩
  | _, _, i + 1, v, .cons _ t, e => by
    obtain ⟨d, h1, h2⟩ := Dts.getV (i := i) (v := v) t (by simpa using e)
    exact ⟨d, by simpa using h1, h2⟩
theorem Dts.set {v : V} {d : D} (r : Dt K mg F v d) : ∀ {vs : List V} {ds : List D} (i : Nat), Dts K mg F vs ds → Dts K mg F (vs.set i v) (ds.set i d)
  | _, _, _, .nil => .nil
  | _, _, 0, .cons _ t => .cons r t
  | _, _, i + 1, .cons h t => .cons h (Dts.set r i t)
theorem Dts.take : ∀ {vs : List V} {ds : List D} (n : Nat), Dts K mg F vs ds → Dts K mg F (vs.take n) (ds.take n)
  | _, _, 0, _ => .nil
  | _, _, _ + 1, .nil => .nil
  | _, _, n + 1, .cons h t => .cons h (Dts.take n t)
theorem Dts.drop : ∀ {vs : List V} {ds : List D} (n : Nat), Dts K mg F vs ds → Dts K mg F (vs.drop n) (ds.drop n)
  | _, _, 0, h => h
  | _, _, _ + 1, .nil => .nil
  | _, _, n + 1, .cons _ t => Dts.drop n t
theorem Dts.reverse {vs : List V} {ds : List D} (h : Dts K mg F vs ds) : Dts K mg F vs.reverse ds.reverse := by
  induction vs generalizing ds with
  | nil => cases h; exact .nil
  | cons v vs ih =>
    cases h with
    | cons h t => rw [List.reverse_cons, List.reverse_cons]; exact (ih t).append (.cons h .nil)
end

/-! ### slots, outcomes -/
/-- a slot: not told; a datum; a list or dict of the def's own that nothing else knows; a list of the caller's that the def changes -/
inductive Sl where
  | un | im (d : D) | ow (d : D) | bo (d : D)
abbrev Sls := List Sl

/-- an end: a value and the slots; an exception; nothing said -/
inductive Ret (α : Type) where
  | ok (a : α) (ρ : Sls) | er (c : Str) (fs : List (Str × D)) (ρ : Sls) | no
abbrev M (α : Type) := Sls → Ret α
def M.ret {α : Type} (a : α) : M α := fun ρ => .ok a ρ
def M.bind {α β : Type} (m : M α) (k : α → M β) : M β := fun ρ => match m ρ with
  | .ok a ρ' => k a ρ'
  | .er c fs ρ' => .er c fs ρ'
  | .no => .no
def M.no {α : Type} : M α := fun _ => .no
/-- a value if it is told -/
def M.of {α : Type} : Option α → M α
  | some a => .ret a
  | none => .no
instance : Monad M where
  pure := M.ret
  bind := M.bind

/-- what stands fast while a def runs: the written part, the module's names, the heap and what was frozen at its start, the list of the caller's that it may change, what is wished of exceptions -/
structure Fc where
  K : PySem.W.Frag
  mg : Str → Option Value
  /-- the tables of code objects that lambdas are found in: they may grow -/
  T : List (Addr × Str)
  G : Hp
  F0 : Hp
  B : Option Addr
  W : WX

abbrev Fc.Dt (c : Fc) (F : Hp) := DL.Dt c.K c.mg F
abbrev Fc.Dts (c : Fc) (F : Hp) := DL.Dts c.K c.mg F

/-- a list or dict that may still change -/
def OwnOk (K : PySem.W.Frag) (mg : Str → Option Value) (F H : Hp) (p : Addr) : D → Prop
  | .lst ds => ∃ xs, H p = some (.lst xs) ∧ Dts K mg F xs ds
  | .dct kds => ∃ kvs, H p = some (.dK kvs) ∧ kvs.map (·.1) = kds.map (·.1) ∧ Dts K mg F (kvs.map (·.2)) (kds.map (·.2))
  | .ob c ds => ∃ C dx fs, mg c = some (.ref C) ∧ H p = some (.ins C dx fs) ∧ fs.map (·.1) = ds.map (·.1) ∧ Dts K mg F (fs.map (·.2)) (ds.map (·.2))
  | _ => False
theorem OwnOk.le {K : PySem.W.Frag} {mg : Str → Option Value} {F F' H H' : Hp} {p : Addr} {d : D} (h : OwnOk K mg F H p d) (l : Le F F') (k : ∀ o, H p = some o → H' p = some o) : OwnOk K mg F' H' p d := by
  cases d with
  | lst ds => obtain ⟨xs, e, t⟩ := h; exact ⟨xs, k _ e, t.le l⟩
  | dct kds => obtain ⟨kvs, e, q, t⟩ := h; exact ⟨kvs, k _ e, q, t.le l⟩
  | ob c ds => obtain ⟨C, dx, fs, m, e, q, t⟩ := h; exact ⟨C, dx, fs, m, k _ e, q, t.le l⟩
  | _ => exact h.elim
theorem OwnOk.there {K : PySem.W.Frag} {mg : Str → Option Value} {F H : Hp} {p : Addr} {d : D} (h : OwnOk K mg F H p d) : ∃ o, H p = some o := by
  cases d with
  | lst ds => obtain ⟨xs, e, t⟩ := h; exact ⟨_, e⟩
  | dct kds => obtain ⟨kvs, e, q, t⟩ := h; exact ⟨_, e⟩
  | ob c ds => obtain ⟨C, dx, fs, m, e, q, t⟩ := h; exact ⟨_, e⟩
  | _ => exact h.elim

def SlOk (c : Fc) (F H : Hp) (o : Option (Option V)) : Option Sl → Prop
  | some (.im d) => ∃ v, o = some (some v) ∧ c.Dt F v d
  | some (.ow d) => ∃ p, o = some (some (.ref p)) ∧ F p = none ∧ c.G p = none ∧ OwnOk c.K c.mg F H p d
  | some (.bo d) => ∃ p, o = some (some (.ref p)) ∧ F p = none ∧ c.B = some p ∧ OwnOk c.K c.mg F H p d
  | _ => True

/-- no table of T -/
def NoT (T : List (Addr × Str)) (a : Addr) : Prop := ∀ p ∈ T, p.1 ≠ a
theorem noT_of {T : List (Addr × Str)} {H : Hp} {a : Addr} {o : HO} (t : LamX.Tabs T H) (e : H a = some o) (n : ∀ ps, o ≠ .tbl ps) : NoT T a := fun p hp z => by
  obtain ⟨ps, h, _⟩ := t p hp
  rw [z, e] at h
  exact n ps (Option.some.inj h)
theorem OwnOk.noT {K : PySem.W.Frag} {mg : Str → Option Value} {F H : Hp} {p : Addr} {d : D} {T : List (Addr × Str)} (h : OwnOk K mg F H p d) (t : LamX.Tabs T H) : NoT T p := by
  cases d with
  | lst ds => obtain ⟨xs, e, _⟩ := h; exact noT_of t e fun ps z => by cases z
  | dct kds => obtain ⟨kvs, e, q, _⟩ := h; exact noT_of t e fun ps z => by cases z
  | ob c ds => obtain ⟨C, dx, fs, m, e, q, _⟩ := h; exact noT_of t e fun ps z => by cases z
  | _ => exact h.elim
/-- the slots stand for ρ -/
structure R (c : Fc) (F H : Hp) (σ : L2.St) (ρ : Sls) : Prop where
  sub : Le F H
  ent : ∀ a o, NoT c.T a → c.G a = some o → c.B ≠ some a → H a = some o
  tab : LamX.Tabs c.T H
  ft : ∀ p ∈ c.T, F p.1 = none
  dom : ∀ a, c.G a ≠ none → H a ≠ none
  frz : ∀ a, c.G a ≠ none → F a = c.F0 a
  bor : ∀ p, c.B = some p → c.G p ≠ none
  len : σ.length = ρ.length
  sl : ∀ i : Nat, SlOk c F H σ[i]? ρ[i]?
  one : ∀ (i : Nat) (d : D), ρ[i]? = some (.bo d) → i = 0
  own : ∀ (i j : Nat) (p : Addr) (d d' : D), ρ[i]? = some (.ow d) → ρ[j]? = some (.ow d') → σ[i]? = some (some (.ref p)) → σ[j]? = some (some (.ref p)) → i = j

/-- a step that only adds: what was tracked stands (but for the tables), what is frozen grows by new objects alone -/
structure Ext (T : List (Addr × Str)) (F H F' H' : Hp) : Prop where
  h : ∀ a o, NoT T a → H a = some o → H' a = some o
  tab : LamX.Tabs T H → LamX.Tabs T H'
  dm : ∀ a, H a ≠ none → H' a ≠ none
  old : ∀ a, H a ≠ none → F' a = F a
  sub : Le F' H'
section
variable {T : List (Addr × Str)}
theorem some_ne {α : Type} {x : Option α} {y : α} (h : x = some y) : x ≠ none := fun z => by rw [z] at h; cases h
theorem ne_some {α : Type} {x : Option α} (h : x ≠ none) : ∃ y, x = some y := by
  cases x with
  | none => exact (h rfl).elim
  | some y => exact ⟨y, rfl⟩
theorem Ext.le {F H F' H' : Hp} (e : Ext T F H F' H') (s : Le F H) : Le F F' := fun a o q => by
  rw [e.old a (some_ne (s a o q))]
  exact q
theorem Ext.refl {F H : Hp} (s : Le F H) : Ext T F H F H := ⟨fun _ _ _ h => h, fun h => h, fun _ h => h, fun _ _ => rfl, s⟩
theorem Ext.trans {F H F1 H1 F2 H2 : Hp} (a : Ext T F H F1 H1) (b : Ext T F1 H1 F2 H2) : Ext T F H F2 H2 :=
  ⟨fun x o n q => b.h x o n (a.h x o n q), fun t => b.tab (a.tab t), fun x q => b.dm x (a.dm x q), fun x q => by rw [b.old x (a.dm x q), a.old x q], b.sub⟩
theorem tabs_new {H : Hp} {p : Addr} {o : HO} (hp : H p = none) (t : LamX.Tabs T H) : LamX.Tabs T (upd H p o) := t.ext fun a u e => by rw [upd_ne (fun z => by rw [z, hp] at e; cases e)]; exact e
theorem Ext.mk' {F H F' H' : Hp} (l : Le H H') (old : ∀ a, H a ≠ none → F' a = F a) (sub : Le F' H') : Ext T F H F' H' :=
  ⟨fun a o _ e => l a o e, fun t => t.ext l, fun a q => by obtain ⟨o, e⟩ := ne_some q; exact some_ne (l a o e), old, sub⟩
theorem Ext.new {F H : Hp} {p : Addr} {o : HO} (s : Le F H) (hp : H p = none) : Ext T F H (upd F p o) (upd H p o) :=
  .mk' (fun a u e => by rw [upd_ne (fun z => by rw [z, hp] at e; cases e)]; exact e) (fun a q => upd_ne (fun z => q (by rw [z]; exact hp))) fun a u e => by
    by_cases z : a = p
    · subst z; rw [upd_same] at e ⊢; exact e
    · rw [upd_ne z] at e ⊢; exact s a u e
/-- a new object that stays the def's own -/
theorem Ext.newO {F H : Hp} {p : Addr} {o : HO} (s : Le F H) (hp : H p = none) : Ext T F H F (upd H p o) :=
  .mk' (fun a u e => by rw [upd_ne (fun z => by rw [z, hp] at e; cases e)]; exact e) (fun a q => rfl) fun a u e => by
    rw [upd_ne (fun z => by subst z; rw [s _ _ e] at hp; cases hp)]; exact s a u e
end

section
variable {c : Fc} {F H F' H' : Hp} {σ : L2.St} {ρ : Sls}
theorem R.ext (r : R c F H σ ρ) (e : Ext c.T F H F' H') : R c F' H' σ ρ where
  sub := e.sub
  ent := fun a o t q n => e.h a o t (r.ent a o t q n)
  tab := e.tab r.tab
  ft := fun p hp => by
    obtain ⟨ps, q, _⟩ := r.tab p hp
    rw [e.old _ (some_ne q)]; exact r.ft p hp
  dom := fun a q => e.dm a (r.dom a q)
  frz := fun a q => by rw [e.old a (r.dom a q)]; exact r.frz a q
  bor := r.bor
  len := r.len
  sl := fun i => by
    have x := r.sl i
    have l := e.le r.sub
    revert x
    cases hs : ρ[i]? with
    | none => exact fun _ => True.intro
    | some s =>
      cases s with
      | un => exact fun _ => True.intro
      | im d => exact fun ⟨v, e1, e2⟩ => ⟨v, e1, e2.le l⟩
      | ow d => exact fun ⟨p, e1, e2, e3, e4⟩ => ⟨p, e1, by
          obtain ⟨o, eo⟩ := e4.there
          rw [e.old p (by rw [eo]; exact fun z => by cases z)]; exact e2, e3, e4.le l fun o q => e.h p o (e4.noT r.tab) q⟩
      | bo d => exact fun ⟨p, e1, e2, e3, e4⟩ => ⟨p, e1, by
          obtain ⟨o, eo⟩ := e4.there
          rw [e.old p (by rw [eo]; exact fun z => by cases z)]; exact e2, e3, e4.le l fun o q => e.h p o (e4.noT r.tab) q⟩
  one := r.one
  own := r.own
end

section
variable {c : Fc} {F H : Hp} {σ : L2.St} {ρ : Sls}
theorem OwnOk.dt {K : PySem.W.Frag} {mg : Str → Option Value} {F H : Hp} {p : Addr} {d : D} {o : HO} (h : OwnOk K mg F H p d) (e : H p = some o) (hn : F p = none) : Dt K mg (upd F p o) (.ref p) d := by
  have l : Le F (upd F p o) := fun a u q => by rw [upd_ne (fun z => by rw [z, hn] at q; cases q)]; exact q
  cases d with
  | lst ds => obtain ⟨xs, e2, t⟩ := h; rw [e] at e2; cases e2; exact .lst upd_same (t.le l)
  | dct kds => obtain ⟨kvs, e2, q, t⟩ := h; rw [e] at e2; cases e2; exact .dct upd_same q (t.le l)
  | ob c ds => obtain ⟨C, dx, fs, m, e2, q, t⟩ := h; rw [e] at e2; cases e2; exact .ob m upd_same q (t.le l)
  | _ => exact h.elim
/-- the def's own list becomes a datum: from here on it stays as it is -/
theorem R.freeze {i : Nat} {d : D} (r : R c F H σ ρ) (h : ρ[i]? = some (.ow d)) : ∃ v F', σ[i]? = some (some v) ∧ Le F F' ∧ R c F' H σ (ρ.set i (.im d)) ∧ c.Dt F' v d := by
  have x := r.sl i
  rw [h] at x
  obtain ⟨p, e1, e2, e3, e4⟩ := x
  obtain ⟨o, eo⟩ := e4.there
  have l : Le F (upd F p o) := fun a u q => by rw [upd_ne (fun z => by rw [z, e2] at q; cases q)]; exact q
  have hi : i < ρ.length := (List.getElem?_eq_some_iff.mp h).1
  refine ⟨.ref p, upd F p o, e1, l, ⟨fun a u q => ?_, r.ent, r.tab, fun q hq => ?_, r.dom, fun a q => ?_, r.bor, by rw [List.length_set]; exact r.len, fun j => ?_, fun j d1 h1 => ?_, fun j k q d1 d2 h1 h2 => ?_⟩, e4.dt eo e2⟩
  · by_cases z : a = p
    · subst z; rw [upd_same] at q; cases q; exact eo
    · rw [upd_ne z] at q; exact r.sub a u q
  · rw [upd_ne (e4.noT r.tab q hq)]; exact r.ft q hq
  · have z : a ≠ p := fun z => q (by rw [z]; exact e3)
    rw [upd_ne z]; exact r.frz a q
  · by_cases z : j = i
    · subst z
      rw [List.getElem?_set_self hi]
      exact ⟨.ref p, e1, e4.dt eo e2⟩
    · rw [List.getElem?_set_ne (Ne.symm z)]
      have y := r.sl j
      revert y
      cases hs : ρ[j]? with
      | none => exact fun _ => True.intro
      | some s =>
        cases s with
        | un => exact fun _ => True.intro
        | im d => exact fun ⟨v, a1, a2⟩ => ⟨v, a1, a2.le l⟩
        | ow d' => exact fun ⟨q, a1, a2, a3, a4⟩ => ⟨q, a1, by
            rw [upd_ne (fun zz => z (r.own j i p d' d hs h (by rw [a1, zz]) e1))]; exact a2, a3, a4.le l fun _ q => q⟩
        | bo d' => exact fun ⟨q, a1, a2, a3, a4⟩ => ⟨q, a1, by
            rw [upd_ne (fun zz => r.bor q a3 (by rw [zz]; exact e3))]; exact a2, a3, a4.le l fun _ q => q⟩
  · have nj : j ≠ i := fun z => by rw [z, List.getElem?_set_self hi] at h1; cases h1
    rw [List.getElem?_set_ne (Ne.symm nj)] at h1
    exact r.one j d1 h1
  · have nj : j ≠ i := fun z => by rw [z, List.getElem?_set_self hi] at h1; cases h1
    have nk : k ≠ i := fun z => by rw [z, List.getElem?_set_self hi] at h2; cases h2
    rw [List.getElem?_set_ne (Ne.symm nj)] at h1
    rw [List.getElem?_set_ne (Ne.symm nk)] at h2
    exact r.own j k q d1 d2 h1 h2
end

/-- an expression's end -/
def Pst (c : Fc) (σ : L2.St) (F : Hp) (r : Ret D) (Q : VK) : Prop := match r with
  | .ok d ρ' => ∀ v F' H', R c F' H' σ ρ' → Le F F' → c.Dt F' v d → Q v H'
  | .er k fs ρ' => ∀ C dd F' H' fv, c.mg k = some (.ref C) → R c F' H' σ ρ' → Le F F' → F' dd = some (.xd fv) → fv.map (·.1) = fs.map (·.1) → c.Dts F' (fv.map (·.2)) (fs.map (·.2)) → c.W (.ref C) (some dd) σ H'
  | .no => False
/-- a list of expressions' end -/
def Psts (c : Fc) (σ : L2.St) (F : Hp) (r : Ret (List D)) (Q : List V → Hp → Prop) : Prop := match r with
  | .ok ds ρ' => ∀ vs F' H', R c F' H' σ ρ' → Le F F' → c.Dts F' vs ds → Q vs H'
  | .er k fs ρ' => ∀ C dd F' H' fv, c.mg k = some (.ref C) → R c F' H' σ ρ' → Le F F' → F' dd = some (.xd fv) → fv.map (·.1) = fs.map (·.1) → c.Dts F' (fv.map (·.2)) (fs.map (·.2)) → c.W (.ref C) (some dd) σ H'
  | .no => False
/-- a test's end -/
def Pstb (c : Fc) (σ : L2.St) (F : Hp) (r : Ret Bool) (Q : Bool → Hp → Prop) : Prop := match r with
  | .ok b ρ' => ∀ F' H', R c F' H' σ ρ' → Le F F' → Q b H'
  | .er k fs ρ' => ∀ C dd F' H' fv, c.mg k = some (.ref C) → R c F' H' σ ρ' → Le F F' → F' dd = some (.xd fv) → fv.map (·.1) = fs.map (·.1) → c.Dts F' (fv.map (·.2)) (fs.map (·.2)) → c.W (.ref C) (some dd) σ H'
  | .no => False
inductive Out where
  | nx | rt (d : D) | bk | ct
/-- a statement's end -/
def Sst (c : Fc) (F : Hp) (r : Ret Out) (E : Ends) : Prop := match r with
  | .ok .nx ρ' => ∀ σ' F' H', R c F' H' σ' ρ' → Le F F' → E.nx σ' H'
  | .ok (.rt d) ρ' => ∀ σ' v F' H', R c F' H' σ' ρ' → Le F F' → c.Dt F' v d → E.rt v H'
  | .ok .bk ρ' => ∀ σ' F' H', R c F' H' σ' ρ' → Le F F' → E.bk σ' H'
  | .ok .ct ρ' => ∀ σ' F' H', R c F' H' σ' ρ' → Le F F' → E.ct σ' H'
  | .er k fs ρ' => ∀ C dd σ' F' H' fv, c.mg k = some (.ref C) → R c F' H' σ' ρ' → Le F F' → F' dd = some (.xd fv) → fv.map (·.1) = fs.map (·.1) → c.Dts F' (fv.map (·.2)) (fs.map (·.2)) → c.W (.ref C) (some dd) σ' H'
  | .no => False

def tE (c : Fc) (f : M D) : TE := fun σ H Q => ∃ F ρ, R c F H σ ρ ∧ Pst c σ F (f ρ) Q
def tAs (c : Fc) (f : M (List D)) : TA := fun σ H Q => ∃ F ρ, R c F H σ ρ ∧ Psts c σ F (f ρ) Q
def tTe (c : Fc) (f : M Bool) : TT := fun σ H Q => ∃ F ρ, R c F H σ ρ ∧ Pstb c σ F (f ρ) Q
def tSt (c : Fc) (g : M Out) : TS := fun E σ H => ∃ F ρ, R c F H σ ρ ∧ Sst c F (g ρ) E

/-- the def's frame constants fit the context -/
structure Fits (X : Cx) (c : Fc) : Prop where
  k : X.K = c.K
  mg : X.mg = c.mg
  tk : Takes X c.W

/-- the readings -/
def DE (X : Cx) (c : Fc) (e : Expr) (f : M D) : Prop := PE X e (tE c f)
def DA (X : Cx) (c : Fc) (es : List Expr) (f : M (List D)) : Prop := PA X es (tAs c f)
def DT (X : Cx) (c : Fc) (e : Expr) (f : M Bool) : Prop := PT X e (tTe c f)
def DS (X : Cx) (c : Fc) (s : Stmt) (g : M Out) : Prop := PS X s (tSt c g)
def DSs (X : Cx) (c : Fc) (s : List Stmt) (g : M Out) : Prop := PSs X s (tSt c g)

section
variable {X : Cx} {c : Fc} {F F1 H : Hp} {σ : L2.St} {ρ : Sls}
theorem PEw {e : Expr} {t t' : TE} (h : PE X e t) (w : ∀ σ H Q, t' σ H Q → t σ H Q) : PE X e t' := ⟨fun pins s σ H Q I q => h.run pins s σ H Q I (w _ _ _ q)⟩
theorem PAw {e : List Expr} {t t' : TA} (h : PA X e t) (w : ∀ σ H Q, t' σ H Q → t σ H Q) : PA X e t' := ⟨fun pos pins s σ H Q I q => h.run pos pins s σ H Q I (w _ _ _ q)⟩
theorem PTw {e : Expr} {t t' : TT} (h : PT X e t) (w : ∀ σ H Q, t' σ H Q → t σ H Q) : PT X e t' := ⟨fun pins s σ H Q I q => h.run pins s σ H Q I (w _ _ _ q)⟩
theorem PWw {e : Expr} {t t' : TT} (h : PW X e t) (w : ∀ σ H Q, t' σ H Q → t σ H Q) : PW X e t' := ⟨fun wh pins s σ H Q I q => h.run wh pins s σ H Q I (w _ _ _ q)⟩
theorem PSw {e : Stmt} {t t' : TS} (h : PS X e t) (w : ∀ D σ H, t' D σ H → t D σ H) : PS X e t' := ⟨fun pins s σ H Q I q => h.run pins s σ H Q I (w _ _ _ q)⟩
theorem PSsw {e : List Stmt} {t t' : TS} (h : PSs X e t) (w : ∀ D σ H, t' D σ H → t D σ H) : PSs X e t' := ⟨fun pins s σ H Q I q => h.run pins s σ H Q I (w _ _ _ q)⟩

theorem Pst.mono {r : Ret D} {Q Q' : VK} (h : Pst c σ F r Q) (l : Le F F1) (q : ∀ v H, Q v H → Q' v H) : Pst c σ F1 r Q' := by
  cases r with
  | ok d ρ' => exact fun v F' H' a b e => q _ _ (h v F' H' a (l.trans b) e)
  | er k fs ρ' => exact fun C dd F' H' fv m a b e1 e2 e3 => h C dd F' H' fv m a (l.trans b) e1 e2 e3
  | no => exact h
theorem Psts.mono {r : Ret (List D)} {Q Q' : List V → Hp → Prop} (h : Psts c σ F r Q) (l : Le F F1) (q : ∀ v H, Q v H → Q' v H) : Psts c σ F1 r Q' := by
  cases r with
  | ok d ρ' => exact fun v F' H' a b e => q _ _ (h v F' H' a (l.trans b) e)
  | er k fs ρ' => exact fun C dd F' H' fv m a b e1 e2 e3 => h C dd F' H' fv m a (l.trans b) e1 e2 e3
  | no => exact h
theorem Pstb.mono {r : Ret Bool} {Q Q' : Bool → Hp → Prop} (h : Pstb c σ F r Q) (l : Le F F1) (q : ∀ v H, Q v H → Q' v H) : Pstb c σ F1 r Q' := by
  cases r with
  | ok d ρ' => exact fun F' H' a b => q _ _ (h F' H' a (l.trans b))
  | er k fs ρ' => exact fun C dd F' H' fv m a b e1 e2 e3 => h C dd F' H' fv m a (l.trans b) e1 e2 e3
  | no => exact h
theorem Sst.mono {r : Ret Out} {E : Ends} (h : Sst c F r E) (l : Le F F1) : Sst c F1 r E := by
  cases r with
  | ok o ρ' =>
    cases o with
    | nx => exact fun σ' F' H' a b => h σ' F' H' a (l.trans b)
    | rt d => exact fun σ' v F' H' a b e => h σ' v F' H' a (l.trans b) e
    | bk => exact fun σ' F' H' a b => h σ' F' H' a (l.trans b)
    | ct => exact fun σ' F' H' a b => h σ' F' H' a (l.trans b)
  | er k fs ρ' => exact fun C dd σ' F' H' fv m a b e1 e2 e3 => h C dd σ' F' H' fv m a (l.trans b) e1 e2 e3
  | no => exact h

/-! binding: the first part's end, then the second's -/
theorem Pst.bind {m : M D} {k : D → M D} {Q : VK} (h : Pst c σ F ((m.bind k) ρ) Q) : Pst c σ F (m ρ) fun v H1 => ∃ F1 ρ1 d, R c F1 H1 σ ρ1 ∧ Le F F1 ∧ c.Dt F1 v d ∧ Pst c σ F1 (k d ρ1) Q := by
  unfold M.bind at h
  cases e : m ρ with
  | ok d ρ' => rw [e] at h; exact fun v F' H' a b t => ⟨F', ρ', d, a, b, t, Pst.mono h b fun _ _ q => q⟩
  | er c fs ρ' => rw [e] at h; exact h
  | no => rw [e] at h; exact h
theorem Pst.bindA {m : M (List D)} {k : List D → M D} {Q : VK} (h : Pst c σ F ((m.bind k) ρ) Q) : Psts c σ F (m ρ) fun v H1 => ∃ F1 ρ1 d, R c F1 H1 σ ρ1 ∧ Le F F1 ∧ c.Dts F1 v d ∧ Pst c σ F1 (k d ρ1) Q := by
  unfold M.bind at h
  cases e : m ρ with
  | ok d ρ' => rw [e] at h; exact fun v F' H' a b t => ⟨F', ρ', d, a, b, t, Pst.mono h b fun _ _ q => q⟩
  | er c fs ρ' => rw [e] at h; exact h
  | no => rw [e] at h; exact h
theorem Pst.bindB {m : M Bool} {k : Bool → M D} {Q : VK} (h : Pst c σ F ((m.bind k) ρ) Q) : Pstb c σ F (m ρ) fun b H1 => ∃ F1 ρ1, R c F1 H1 σ ρ1 ∧ Le F F1 ∧ Pst c σ F1 (k b ρ1) Q := by
  unfold M.bind at h
  cases e : m ρ with
  | ok d ρ' => rw [e] at h; exact fun F' H' a b => ⟨F', ρ', a, b, Pst.mono h b fun _ _ q => q⟩
  | er c fs ρ' => rw [e] at h; exact h
  | no => rw [e] at h; exact h
theorem Psts.bind {m : M D} {k : D → M (List D)} {Q : List V → Hp → Prop} (h : Psts c σ F ((m.bind k) ρ) Q) : Pst c σ F (m ρ) fun v H1 => ∃ F1 ρ1 d, R c F1 H1 σ ρ1 ∧ Le F F1 ∧ c.Dt F1 v d ∧ Psts c σ F1 (k d ρ1) Q := by
  unfold M.bind at h
  cases e : m ρ with
  | ok d ρ' => rw [e] at h; exact fun v F' H' a b t => ⟨F', ρ', d, a, b, t, Psts.mono h b fun _ _ q => q⟩
  | er c fs ρ' => rw [e] at h; exact h
  | no => rw [e] at h; exact h
theorem Psts.bindA {m : M (List D)} {k : List D → M (List D)} {Q : List V → Hp → Prop} (h : Psts c σ F ((m.bind k) ρ) Q) : Psts c σ F (m ρ) fun v H1 => ∃ F1 ρ1 d, R c F1 H1 σ ρ1 ∧ Le F F1 ∧ c.Dts F1 v d ∧ Psts c σ F1 (k d ρ1) Q := by
  unfold M.bind at h
  cases e : m ρ with
  | ok d ρ' => rw [e] at h; exact fun v F' H' a b t => ⟨F', ρ', d, a, b, t, Psts.mono h b fun _ _ q => q⟩
  | er c fs ρ' => rw [e] at h; exact h
  | no => rw [e] at h; exact h
theorem Pstb.bind {m : M D} {k : D → M Bool} {Q : Bool → Hp → Prop} (h : Pstb c σ F ((m.bind k) ρ) Q) : Pst c σ F (m ρ) fun v H1 => ∃ F1 ρ1 d, R c F1 H1 σ ρ1 ∧ Le F F1 ∧ c.Dt F1 v d ∧ Pstb c σ F1 (k d ρ1) Q := by
  unfold M.bind at h
  cases e : m ρ with
  | ok d ρ' => rw [e] at h; exact fun v F' H' a b t => ⟨F', ρ', d, a, b, t, Pstb.mono h b fun _ _ q => q⟩
  | er c fs ρ' => rw [e] at h; exact h
  | no => rw [e] at h; exact h
theorem Pstb.bindB {m : M Bool} {k : Bool → M Bool} {Q : Bool → Hp → Prop} (h : Pstb c σ F ((m.bind k) ρ) Q) : Pstb c σ F (m ρ) fun b H1 => ∃ F1 ρ1, R c F1 H1 σ ρ1 ∧ Le F F1 ∧ Pstb c σ F1 (k b ρ1) Q := by
  unfold M.bind at h
  cases e : m ρ with
  | ok d ρ' => rw [e] at h; exact fun F' H' a b => ⟨F', ρ', a, b, Pstb.mono h b fun _ _ q => q⟩
  | er c fs ρ' => rw [e] at h; exact h
  | no => rw [e] at h; exact h
theorem Sst.bind {m : M D} {k : D → M Out} {E : Ends} {σ : L2.St} (h : Sst c F ((m.bind k) ρ) E) : Pst c σ F (m ρ) fun v H1 => ∃ F1 ρ1 d, R c F1 H1 σ ρ1 ∧ Le F F1 ∧ c.Dt F1 v d ∧ Sst c F1 (k d ρ1) E := by
  unfold M.bind at h
  cases e : m ρ with
  | ok d ρ' => rw [e] at h; exact fun v F' H' a b t => ⟨F', ρ', d, a, b, t, Sst.mono h b⟩
  | er c fs ρ' => rw [e] at h; exact fun C dd F' H' fv m a b e1 e2 e3 => h C dd σ F' H' fv m a b e1 e2 e3
  | no => rw [e] at h; exact h
theorem Sst.bindA {m : M (List D)} {k : List D → M Out} {E : Ends} {σ : L2.St} (h : Sst c F ((m.bind k) ρ) E) : Psts c σ F (m ρ) fun v H1 => ∃ F1 ρ1 d, R c F1 H1 σ ρ1 ∧ Le F F1 ∧ c.Dts F1 v d ∧ Sst c F1 (k d ρ1) E := by
  unfold M.bind at h
  cases e : m ρ with
  | ok d ρ' => rw [e] at h; exact fun v F' H' a b t => ⟨F', ρ', d, a, b, t, Sst.mono h b⟩
  | er c fs ρ' => rw [e] at h; exact fun C dd F' H' fv m a b e1 e2 e3 => h C dd σ F' H' fv m a b e1 e2 e3
  | no => rw [e] at h; exact h
theorem Sst.bindB {m : M Bool} {k : Bool → M Out} {E : Ends} {σ : L2.St} (h : Sst c F ((m.bind k) ρ) E) : Pstb c σ F (m ρ) fun b H1 => ∃ F1 ρ1, R c F1 H1 σ ρ1 ∧ Le F F1 ∧ Sst c F1 (k b ρ1) E := by
  unfold M.bind at h
  cases e : m ρ with
  | ok d ρ' => rw [e] at h; exact fun F' H' a b => ⟨F', ρ', a, b, Sst.mono h b⟩
  | er c fs ρ' => rw [e] at h; exact fun C dd F' H' fv m a b e1 e2 e3 => h C dd σ F' H' fv m a b e1 e2 e3
  | no => rw [e] at h; exact h
end
end DL

set_option Elab.async false
set_option linter.all false
set_option maxRecDepth 100000
set_option maxHeartbeats 4000000
/-! DL2: expressions, statements, calls as functions of data. -/
namespace DL
open PySem PySem.Spec PyProof.Rows L2

/-! ### results of a def -/
inductive Res (α : Type) where
  | ok (a : α) | er (c : Str) (fs : List (Str × D)) | no
def M.res {α : Type} (r : Res α) : M α := fun ρ => match r with
  | .ok a => .ok a ρ
  | .er k fs => .er k fs ρ
  | .no => .no
def M.grd {α : Type} (b : Bool) (m : M α) : M α := if b then m else M.no
def endD (K : PySem.W.Frag) (mg : Str → Option Value) (T : List (Addr × Str)) (F H : Hp) (r : Res D) (Q : VK) (E : XK) : Prop := match r with
  | .ok d => ∀ v F' H', Ext T F H F' H' → Dt K mg F' v d → Q v H'
  | .er k fs => ∀ C dd F' H' fv, mg k = some (.ref C) → Ext T F H F' H' → F' dd = some (.xd fv) → fv.map (·.1) = fs.map (·.1) → Dts K mg F' (fv.map (·.2)) (fs.map (·.2)) → E (.ref C) (some dd) H'
  | .no => False
/-- a def's promise: from data to data -/
def spD (K : PySem.W.Frag) (mg : Str → Option Value) (T : List (Addr × Str)) (n : Nat) (f : List D → Res D) : Sp := fun vs H Q E =>
  ∃ F ds, (LamX.Tabs T H ∧ (∀ p ∈ T, F p.1 = none) ∧ Le F H) ∧ Dts K mg F vs ds ∧ ds.length = n ∧ endD K mg T F H (f ds) Q E
/-- a step that may change the object at p too -/
structure ExtB (T : List (Addr × Str)) (p : Addr) (F H F' H' : Hp) : Prop where
  h : ∀ a o, NoT T a → a ≠ p → H a = some o → H' a = some o
  tab : LamX.Tabs T H → LamX.Tabs T H'
  dm : ∀ a, H a ≠ none → H' a ≠ none
  there : H' p ≠ none
  old : ∀ a, H a ≠ none → F' a = F a
  sub : Le F' H'
def endB (K : PySem.W.Frag) (mg : Str → Option Value) (T : List (Addr × Str)) (p : Addr) (F H : Hp) (r : Res (D × D)) (Q : VK) (E : XK) : Prop := match r with
  | .ok (d, t) => ∀ v F' H', ExtB T p F H F' H' → OwnOk K mg F' H' p t → Dt K mg F' v d → Q v H'
  | .er k fs => ∀ C dd F' H' fv, mg k = some (.ref C) → ExtB T p F H F' H' → F' dd = some (.xd fv) → fv.map (·.1) = fs.map (·.1) → Dts K mg F' (fv.map (·.2)) (fs.map (·.2)) → E (.ref C) (some dd) H'
  | .no => False
/-- a def's promise that changes its first argument: a list, a dict, an instance that stands at p -/
def spB (K : PySem.W.Frag) (mg : Str → Option Value) (T : List (Addr × Str)) (n : Nat) (f : D → List D → Res (D × D)) : Sp := fun vs H Q E =>
  ∃ F p t ws ds, vs = .ref p :: ws ∧ (LamX.Tabs T H ∧ (∀ p ∈ T, F p.1 = none) ∧ Le F H) ∧ F p = none ∧ OwnOk K mg F H p t ∧ Dts K mg F ws ds ∧ ds.length + 1 = n ∧ endB K mg T p F H (f t ds) Q E

/-- a body's end as a def's result -/
def resD : Ret Out → Res D
  | .ok (.rt d) _ => .ok d
  | .ok .nx _ => .ok .non
  | .er k fs _ => .er k fs
  | _ => .no
def resB : Ret Out → Res (D × D)
  | .ok (.rt d) (.bo t :: _) => .ok (d, t)
  | .ok .nx (.bo t :: _) => .ok (.non, t)
  | .er k fs _ => .er k fs
  | _ => .no
def slots (n : Nat) (ds : List Sl) : Sls := ds ++ List.replicate (n - ds.length) .un

/-- the context and the def's constants fit -/
structure Fit (X : Cx) (c : Fc) : Prop where
  k : X.K = c.K
  mg : X.mg = c.mg
  tk : Takes X c.W
  /-- the wish doesn't look at the slots -/
  wσ : ∀ cls d σ σ' H, c.W cls d σ H → c.W cls d σ' H

section
variable {P : Program} {w : World} {K : PySem.W.Frag} {mg : Str → Option Value} {base : Heap} {T : List (Addr × Str)}
theorem slots_len {n : Nat} {N : List Str} {ss : List Sl} {vs : List V} (h : vs.length = ss.length) (e : N.length = n) : (L2.start N vs).length = (slots n ss).length := by
  unfold L2.start slots
  simp [h, e]
theorem un_at {n : Nat} {i : Nat} {c : Fc} {F H : Hp} {o : Option (Option V)} : SlOk c F H o (List.replicate n Sl.un)[i]? := by
  rw [List.getElem?_replicate]
  split <;> exact True.intro
theorem slots_get {n : Nat} {N : List Str} {ds : List D} {vs : List V} {F : Hp} {c : Fc} (t : c.Dts F vs ds) (H : Hp) (i : Nat) : SlOk c F H (L2.start N vs)[i]? (slots n (ds.map .im))[i]? := by
  unfold slots L2.start
  by_cases h : i < ds.length
  · have h' : i < vs.length := by rw [t.length]; exact h
    rw [List.getElem?_append_left (l₁ := vs.map some) (by simpa using h'), List.getElem?_append_left (l₁ := ds.map Sl.im) (by simpa using h), List.getElem?_map, List.getElem?_map]
    obtain ⟨d, hd⟩ : ∃ d, ds[i]? = some d := ⟨_, List.getElem?_eq_getElem h⟩
    obtain ⟨v, hv, dt⟩ := t.get hd
    rw [hd, hv]
    exact ⟨v, rfl, dt⟩
  · rw [List.getElem?_append_right (l₁ := ds.map Sl.im) (by simpa using Nat.le_of_not_lt h)]
    exact un_at
theorem slots_im {n : Nat} {ds : List D} {i : Nat} {d : D} : (slots n (ds.map .im))[i]? ≠ some (.ow d) := fun h => by
  unfold slots at h
  have hm := List.mem_of_getElem? h
  rcases List.mem_append.mp hm with z | z
  · obtain ⟨x, _, e⟩ := List.mem_map.mp z; cases e
  · have := (List.mem_replicate.mp z).2; cases this
theorem slots_nb {n : Nat} {ds : List D} {i : Nat} {d : D} : (slots n (ds.map .im))[i]? ≠ some (.bo d) := fun h => by
  unfold slots at h
  have hm := List.mem_of_getElem? h
  rcases List.mem_append.mp hm with z | z
  · obtain ⟨x, _, e⟩ := List.mem_map.mp z; cases e
  · have := (List.mem_replicate.mp z).2; cases this
/-- THE RULE for a def that changes nothing of its caller's -/
theorem fn_spD {x qual : Str} {st : Stmt} {f : Addr} {fd : FuncData} {N ps : List Str} {k : Nat} {g : M Out} (Fn : Fun K x qual st f fd) (S : FnScope N ps (defScope st))
    (hbody : ∀ (cdv : Value) (A : Around) (outer : List Env) (s : Shared) (H : Hp) (E : XK) (c : Fc), c.K = K → c.mg = mg → c.T = T → Fit (cxOf (L2.CX P w) P w K mg base N qual (defScope st) f cdv A outer s H E) c → Room k (A.deeper (envOfC qual (defScope st) s.heap.objs.size f cdv)) →
      DSs (cxOf (L2.CX P w) P w K mg base N qual (defScope st) f cdv A outer s H E) c (defBody st) g) :
    FnOk P w K mg base (L2.CX P w) (k + 1) f fd ps (spD K mg T ps.length fun ds => resD (g (slots N.length (ds.map .im)))) := by
  refine Fn.okX S (fun vs H Q E ⟨F, ds, _, t, hl, _⟩ => by rw [t.length]; exact hl) fun cdv A outer s H vs Q E hr ⟨F, ds, ⟨tb, ft, sub⟩, t, hl, he⟩ => ?_
  refine ⟨_, hbody cdv A outer s H E ⟨K, mg, T, H, F, none, fun cls d _ H => E cls d H⟩ rfl rfl rfl ⟨rfl, rfl, takes_of rfl rfl rfl rfl, fun _ _ _ _ _ h => h⟩ hr, F, slots N.length (ds.map .im), ?_, ?_⟩
  · exact ⟨sub, fun a o _ e _ => e, tb, ft, fun a e => e, fun a _ => rfl, fun _ e => (by cases e), slots_len (by rw [t.length, List.length_map]) rfl, fun i => slots_get t H i, fun i d h1 => (slots_nb h1).elim, fun i j p d d' h1 _ _ _ => (slots_im h1).elim⟩
  · have he : endD K mg T F H (resD (g (slots N.length (ds.map .im)))) Q E := he
    generalize g (slots N.length (ds.map .im)) = r at he
    cases r with
    | ok o ρ' =>
      cases o with
      | nx => exact fun σ' F' H' r l => he .non F' H' ⟨fun a o n e => r.ent a o n e (by intro z; cases z), fun _ => r.tab, r.dom, fun a e => r.frz a e, r.sub⟩ .non
      | rt d => exact fun σ' v F' H' r l dt => he v F' H' ⟨fun a o n e => r.ent a o n e (by intro z; cases z), fun _ => r.tab, r.dom, fun a e => r.frz a e, r.sub⟩ dt
      | bk => exact he.elim
      | ct => exact he.elim
    | er kk fs ρ' => exact fun C dd σ' F' H' fv m r l e1 e2 e3 => he C dd F' H' fv m ⟨fun a o n e => r.ent a o n e (by intro z; cases z), fun _ => r.tab, r.dom, fun a e => r.frz a e, r.sub⟩ e1 e2 e3
    | no => exact he.elim
/-- THE RULE for a def that changes its first argument -/
theorem fn_spB {x qual : Str} {st : Stmt} {f : Addr} {fd : FuncData} {N ps : List Str} {k : Nat} {g : M Out} (Fn : Fun K x qual st f fd) (S : FnScope N ps (defScope st))
    (hbody : ∀ (cdv : Value) (A : Around) (outer : List Env) (s : Shared) (H : Hp) (E : XK) (c : Fc), c.K = K → c.mg = mg → c.T = T → Fit (cxOf (L2.CX P w) P w K mg base N qual (defScope st) f cdv A outer s H E) c → Room k (A.deeper (envOfC qual (defScope st) s.heap.objs.size f cdv)) →
      DSs (cxOf (L2.CX P w) P w K mg base N qual (defScope st) f cdv A outer s H E) c (defBody st) g) :
    FnOk P w K mg base (L2.CX P w) (k + 1) f fd ps (spB K mg T ps.length fun t ds => resB (g (slots N.length (.bo t :: ds.map .im)))) := by
  refine Fn.okX S (fun vs H Q E ⟨F, p, t, ws, ds, ev, _, _, _, tt, hl, _⟩ => by rw [ev, List.length_cons, tt.length]; exact hl) fun cdv A outer s H vs Q E hr ⟨F, p, t, ws, ds, ev, ⟨tb, ft, sub⟩, fp, ow, tt, hl, he⟩ => ?_
  subst ev
  have hp : H p ≠ none := by obtain ⟨o, eo⟩ := ow.there; rw [eo]; exact fun z => by cases z
  refine ⟨_, hbody cdv A outer s H E ⟨K, mg, T, H, F, some p, fun cls d _ H => E cls d H⟩ rfl rfl rfl ⟨rfl, rfl, takes_of rfl rfl rfl rfl, fun _ _ _ _ _ h => h⟩ hr, F, slots N.length (.bo t :: ds.map .im), ?_, ?_⟩
  · refine ⟨sub, fun a o _ e _ => e, tb, ft, fun a e => e, fun a _ => rfl, fun q e => (by cases e; exact hp), slots_len (by rw [List.length_cons, List.length_cons, tt.length, List.length_map]) rfl, fun i => ?_, fun i d h1 => ?_, fun i j p d d' h1 _ _ _ => ?_⟩
    · cases i with
      | zero => exact ⟨p, rfl, fp, rfl, ow⟩
      | succ i =>
        have y := slots_get (c := ⟨K, mg, T, H, F, some p, fun cls d _ H => E cls d H⟩) (N := N.drop 1) (n := N.length - 1) tt H i
        have e1 : (L2.start N (.ref p :: ws))[i + 1]? = (L2.start (N.drop 1) ws)[i]? := by
          unfold L2.start
          rw [List.map_cons, List.cons_append, List.getElem?_cons_succ, List.length_cons, List.length_drop, Nat.sub_sub, Nat.add_comm 1]
        have e2 : (slots N.length (.bo t :: ds.map .im))[i + 1]? = (slots (N.length - 1) (ds.map .im))[i]? := by
          unfold slots
          rw [List.cons_append, List.getElem?_cons_succ, List.length_cons, Nat.sub_sub, Nat.add_comm 1]
        rw [e1, e2]
        exact y
    · cases i with
      | zero => rfl
      | succ i =>
        have e2 : (slots N.length (.bo t :: ds.map .im))[i + 1]? = (slots (N.length - 1) (ds.map .im))[i]? := by
          unfold slots
          rw [List.cons_append, List.getElem?_cons_succ, List.length_cons, Nat.sub_sub, Nat.add_comm 1]
        rw [e2] at h1
        exact (slots_nb h1).elim
    · cases i with
      | zero => cases h1
      | succ i =>
        have e2 : (slots N.length (.bo t :: ds.map .im))[i + 1]? = (slots (N.length - 1) (ds.map .im))[i]? := by
          unfold slots
          rw [List.cons_append, List.getElem?_cons_succ, List.length_cons, Nat.sub_sub, Nat.add_comm 1]
        rw [e2] at h1
        exact (slots_im h1).elim
  · have key : ∀ {σ' : L2.St} {F' H' : Hp} {ρ' : Sls}, R ⟨K, mg, T, H, F, some p, fun cls d _ H => E cls d H⟩ F' H' σ' ρ' → ExtB T p F H F' H' := fun r =>
      ⟨fun a o t n e => r.ent a o t e (fun z => n (by cases z; rfl)), fun _ => r.tab, r.dom, r.dom p hp, fun a e => r.frz a e, r.sub⟩
    have own : ∀ {σ' : L2.St} {F' H' : Hp} {t' : D} {ρ' : Sls}, R ⟨K, mg, T, H, F, some p, fun cls d _ H => E cls d H⟩ F' H' σ' (.bo t' :: ρ') → OwnOk K mg F' H' p t' := fun {σ' F' H' t' ρ'} r => by
      obtain ⟨q, _, _, e, o⟩ := r.sl 0
      have e' : some p = some q := e
      cases e'
      exact o
    have he : endB K mg T p F H (resB (g (slots N.length (.bo t :: ds.map .im)))) Q E := he
    generalize g (slots N.length (.bo t :: ds.map .im)) = r at he
    cases r with
    | ok o ρ' =>
      cases ρ' with
      | nil => cases o <;> exact he.elim
      | cons s ρ' =>
        cases s with
        | bo t' =>
          cases o with
          | nx => exact fun σ' F' H' r l => he .non F' H' (key r) (own r) .non
          | rt d => exact fun σ' v F' H' r l dt => he v F' H' (key r) (own r) dt
          | bk => exact he.elim
          | ct => exact he.elim
        | un => cases o <;> exact he.elim
        | im d => cases o <;> exact he.elim
        | ow d => cases o <;> exact he.elim
    | er kk fs ρ' => exact fun C dd σ' F' H' fv m r l e1 e2 e3 => he C dd F' H' fv m (key r) e1 e2 e3
    | no => exact he.elim
end

/-! ### statements -/
section
variable {X : Cx} {c : Fc}
def M.nx : M Out := M.ret .nx
/-- go on if the statement before ran through -/
def M.seq (m : M Out) (k : M Out) : M Out := m.bind fun o => match o with
  | .nx => k
  | o => M.ret o
theorem dss_nil : DSs X c [] M.nx := PSsw pss_nil fun D σ H ⟨F, ρ, r, h⟩ => h σ F H r (.refl _)
theorem Sst.seq {F : Hp} {ρ : Sls} {m k : M Out} {E : Ends} (h : Sst c F ((m.seq k) ρ) E) : Sst c F (m ρ) { E with nx := fun σ H => ∃ F ρ, R c F H σ ρ ∧ Sst c F (k ρ) E } := by
  unfold M.seq M.bind at h
  cases e : m ρ with
  | ok o ρ' =>
    rw [e] at h
    cases o with
    | nx => exact fun σ' F' H' r l => ⟨F', ρ', r, Sst.mono h l⟩
    | rt d => exact h
    | bk => exact h
    | ct => exact h
  | er k fs ρ' => rw [e] at h; exact h
  | no => rw [e] at h; exact h
theorem dss_cons {st : Stmt} {rest : List Stmt} {g k : M Out} (h1 : DS X c st g) (h2 : DSs X c rest k) : DSs X c (st :: rest) (g.seq k) :=
  PSsw (pss_cons h1 h2) fun D σ H ⟨F, ρ, r, h⟩ => ⟨F, ρ, r, h.seq⟩
theorem dss_one {st : Stmt} {g : M Out} (h1 : DS X c st g) : DSs X c [st] g := pss_one h1
theorem ds_doc {x j pos pos'} : DS X c (.Expr (.Constant (.str x) j pos) pos') M.nx := PSw ps_doc fun D σ H ⟨F, ρ, r, h⟩ => h σ F H r (.refl _)
theorem ds_pass {pos} : DS X c (.Pass pos) M.nx := PSw ps_pass fun D σ H ⟨F, ρ, r, h⟩ => h σ F H r (.refl _)
theorem ds_break {pos} : DS X c (.Break pos) (M.ret .bk) := PSw ps_break fun D σ H ⟨F, ρ, r, h⟩ => h σ F H r (.refl _)
theorem ds_continue {pos} : DS X c (.Continue pos) (M.ret .ct) := PSw ps_continue fun D σ H ⟨F, ρ, r, h⟩ => h σ F H r (.refl _)
theorem ds_ret {e : Expr} {f : M D} {pos} (h : DE X c e f) : DS X c (.Return (some e) pos) (f.bind fun d => M.ret (.rt d)) := PSw (ps_ret h) fun D σ H ⟨F, ρ, r, h⟩ =>
  ⟨F, ρ, r, (Sst.bind (σ := σ) h).mono (.refl _) fun v H1 ⟨F1, ρ1, d, r1, l1, t1, h1⟩ => h1 σ v F1 H1 r1 (.refl _) t1⟩
theorem ds_retN {pos} : DS X c (.Return none pos) (M.ret (.rt .non)) := PSw ps_retN fun D σ H ⟨F, ρ, r, h⟩ => h σ .non F H r (.refl _) .non
theorem ds_expr {e : Expr} {f : M D} {pos} (h : DE X c e f) (hs : swapsWith e none pos.line X.env = pure false := by rfl) : DS X c (.Expr e pos) (f.bind fun _ => M.nx) := PSw (ps_expr h hs) fun D σ H ⟨F, ρ, r, h⟩ =>
  ⟨F, ρ, r, (Sst.bind (σ := σ) h).mono (.refl _) fun v H1 ⟨F1, ρ1, d, r1, l1, t1, h1⟩ => h1 σ F1 H1 r1 (.refl _)⟩
theorem ds_if {t : Expr} {a b : List Stmt} {f : M Bool} {g k : M Out} {pos} (ht : DT X c t f) (ha : DSs X c a g) (hb : DSs X c b k) : DS X c (.If t a b pos) (f.bind fun x => if x then g else k) := PSw (ps_if ht ha hb) fun D σ H ⟨F, ρ, r, h⟩ =>
  ⟨F, ρ, r, (Sst.bindB (σ := σ) h).mono (.refl _) fun v H1 ⟨F1, ρ1, r1, l1, h1⟩ => by
    cases v with
    | true => exact ⟨F1, ρ1, r1, h1⟩
    | false => exact ⟨F1, ρ1, r1, h1⟩⟩

/-- a datum into a slot -/
theorem R.setIm {F H : Hp} {σ : L2.St} {ρ : Sls} {i : Nat} {v : V} {d : D} (r : R c F H σ ρ) (t : c.Dt F v d) : R c F H (σ.set i (some v)) (ρ.set i (.im d)) := by
  by_cases hr : i < ρ.length
  · have hi : i < σ.length := by rw [r.len]; exact hr
    refine ⟨r.sub, r.ent, r.tab, r.ft, r.dom, r.frz, r.bor, by rw [List.length_set, List.length_set]; exact r.len, fun j => ?_, fun j d1 h1 => ?_, fun j k p d1 d2 h1 h2 h3 h4 => ?_⟩
    · by_cases z : j = i
      · subst z
        rw [List.getElem?_set_self hi, List.getElem?_set_self hr]; exact ⟨v, rfl, t⟩
      · rw [List.getElem?_set_ne (Ne.symm z), List.getElem?_set_ne (Ne.symm z)]; exact r.sl j
    · have nj : j ≠ i := fun z => by subst z; rw [List.getElem?_set_self hr] at h1; cases h1
      rw [List.getElem?_set_ne (Ne.symm nj)] at h1
      exact r.one j d1 h1
    · have nj : j ≠ i := fun z => by subst z; rw [List.getElem?_set_self hr] at h1; cases h1
      have nk : k ≠ i := fun z => by subst z; rw [List.getElem?_set_self hr] at h2; cases h2
      rw [List.getElem?_set_ne (Ne.symm nj)] at h1 h3
      rw [List.getElem?_set_ne (Ne.symm nk)] at h2 h4
      exact r.own j k p d1 d2 h1 h2 h3 h4
  · rw [List.set_eq_of_length_le (by rw [r.len]; exact Nat.le_of_not_lt hr), List.set_eq_of_length_le (Nat.le_of_not_lt hr)]
    exact r
/-- a slot is not told any more -/
theorem R.setUn {F H : Hp} {σ : L2.St} {ρ : Sls} {i : Nat} {o : Option V} (r : R c F H σ ρ) : R c F H (σ.set i o) (ρ.set i .un) := by
  by_cases hr : i < ρ.length
  · have hi : i < σ.length := by rw [r.len]; exact hr
    refine ⟨r.sub, r.ent, r.tab, r.ft, r.dom, r.frz, r.bor, by rw [List.length_set, List.length_set]; exact r.len, fun j => ?_, fun j d1 h1 => ?_, fun j k p d1 d2 h1 h2 h3 h4 => ?_⟩
    · by_cases z : j = i
      · subst z
        rw [List.getElem?_set_self hi, List.getElem?_set_self hr]; exact True.intro
      · rw [List.getElem?_set_ne (Ne.symm z), List.getElem?_set_ne (Ne.symm z)]; exact r.sl j
    · have nj : j ≠ i := fun z => by subst z; rw [List.getElem?_set_self hr] at h1; cases h1
      rw [List.getElem?_set_ne (Ne.symm nj)] at h1
      exact r.one j d1 h1
    · have nj : j ≠ i := fun z => by subst z; rw [List.getElem?_set_self hr] at h1; cases h1
      have nk : k ≠ i := fun z => by subst z; rw [List.getElem?_set_self hr] at h2; cases h2
      rw [List.getElem?_set_ne (Ne.symm nj)] at h1 h3
      rw [List.getElem?_set_ne (Ne.symm nk)] at h2 h4
      exact r.own j k p d1 d2 h1 h2 h3 h4
  · rw [List.set_eq_of_length_le (by rw [r.len]; exact Nat.le_of_not_lt hr), List.set_eq_of_length_le (Nat.le_of_not_lt hr)]
    exact r
/-- a new object of the def's own into a slot -/
theorem R.setOw {F H : Hp} {σ : L2.St} {ρ : Sls} {i : Nat} {p : Addr} {d : D} (r : R c F H σ ρ) (hf : F p = none) (hG : c.G p = none) (ow : OwnOk c.K c.mg F H p d) (nu : ∀ (j : Nat) d', ρ[j]? = some (.ow d') → σ[j]? ≠ some (some (.ref p))) :
    R c F H (σ.set i (some (.ref p))) (ρ.set i (.ow d)) := by
  by_cases hr : i < ρ.length
  · have hi : i < σ.length := by rw [r.len]; exact hr
    refine ⟨r.sub, r.ent, r.tab, r.ft, r.dom, r.frz, r.bor, by rw [List.length_set, List.length_set]; exact r.len, fun j => ?_, fun j d1 h1 => ?_, fun j k q d1 d2 h1 h2 h3 h4 => ?_⟩
    · by_cases z : j = i
      · subst z
        rw [List.getElem?_set_self hi, List.getElem?_set_self hr]; exact ⟨p, rfl, hf, hG, ow⟩
      · rw [List.getElem?_set_ne (Ne.symm z), List.getElem?_set_ne (Ne.symm z)]; exact r.sl j
    · have nj : j ≠ i := fun z => by subst z; rw [List.getElem?_set_self hr] at h1; cases h1
      rw [List.getElem?_set_ne (Ne.symm nj)] at h1
      exact r.one j d1 h1
    · by_cases zj : j = i
      · by_cases zk : k = i
        · rw [zj, zk]
        · subst zj
          rw [List.getElem?_set_self hi] at h3
          cases h3
          rw [List.getElem?_set_ne (Ne.symm zk)] at h2 h4
          exact (nu k d2 h2 h4).elim
      · rw [List.getElem?_set_ne (Ne.symm zj)] at h1 h3
        by_cases zk : k = i
        · subst zk
          rw [List.getElem?_set_self hi] at h4
          cases h4
          exact (nu j d1 h1 h3).elim
        · rw [List.getElem?_set_ne (Ne.symm zk)] at h2 h4
          exact r.own j k q d1 d2 h1 h2 h3 h4
  · rw [List.set_eq_of_length_le (by rw [r.len]; exact Nat.le_of_not_lt hr), List.set_eq_of_length_le (Nat.le_of_not_lt hr)]
    exact r
/-- what no own slot holds: an address that is new -/
theorem R.nu {F H : Hp} {σ : L2.St} {ρ : Sls} {p : Addr} (r : R c F H σ ρ) (hp : H p = none) : ∀ (j : Nat) d', ρ[j]? = some (.ow d') → σ[j]? ≠ some (some (.ref p)) := fun j d' h1 h2 => by
  have x := r.sl j
  rw [h1] at x
  obtain ⟨q, e1, _, _, e4⟩ := x
  rw [h2] at e1
  cases e1
  obtain ⟨o, eo⟩ := e4.there
  rw [hp] at eo; cases eo
theorem R.gnone {F H : Hp} {σ : L2.St} {ρ : Sls} {p : Addr} (r : R c F H σ ρ) (hp : H p = none) : c.G p = none := by
  cases e : c.G p with
  | none => rfl
  | some o => exact (r.dom p (by rw [e]; exact fun z => by cases z) hp).elim
theorem R.fnone {F H : Hp} {σ : L2.St} {ρ : Sls} {p : Addr} (r : R c F H σ ρ) (hp : H p = none) : F p = none := by
  cases e : F p with
  | none => rfl
  | some o => rw [r.sub _ _ e] at hp; cases hp

/-- x = e: a datum -/
theorem ds_set {i : Nat} {x : Str} {e : Expr} {f : M D} {pos pos' : Pos} (he : DE X c e f) (hN : X.N.Nodup) (hi : X.N[i]? = some x) (hx : Loc X.env.scope x) (hs : swapsWith e (some (.Name x pos')) pos.line X.env = pure false := by rfl)
    (hf : X.fn x = true ∨ X.env.scope.names.lookup x = some .local := by first | exact .inl rfl | exact .inr rfl | assumption) :
    DS X c (.Assign [.Name x pos'] e pos) (f.bind fun d ρ => .ok .nx (ρ.set i (.im d))) := PSw (ps_set hN hi hx he hs hf) fun D σ H ⟨F, ρ, r, h⟩ =>
  ⟨F, ρ, r, (Sst.bind (σ := σ) h).mono (.refl _) fun v H1 ⟨F1, ρ1, d, r1, l1, t1, h1⟩ => h1 _ F1 H1 (r1.setIm t1) (.refl _)⟩
end
end DL

set_option Elab.async false
set_option linter.all false
set_option maxRecDepth 100000
set_option maxHeartbeats 4000000
/-! DL3: expressions. -/
namespace DL
open PySem PySem.Spec PyProof.Rows L2
section
variable {X : Cx} {c : Fc} {F H : Hp} {σ : L2.St} {ρ : Sls}

/-! ### results that are told -/
theorem Pst.ret {d : D} {Q : VK} (h : Pst c σ F (M.ret d ρ) Q) {v : V} (r : R c F H σ ρ) (t : c.Dt F v d) : Q v H := h v F H r (.refl _) t
theorem Pst.newTup {ds : List D} {vs : List V} {Q : VK} (h : Pst c σ F (M.ret (.tup ds) ρ) Q) (r : R c F H σ ρ) (t : c.Dts F vs ds) {p : Addr} (hp : H p = none) : Q (.ref p) (upd H p (.tup vs)) := by
  have e : Ext c.T F H (upd F p (.tup vs)) (upd H p (.tup vs)) := .new r.sub hp
  exact h _ _ _ (r.ext e) (e.le r.sub) (.tup (SqT.of upd_same) (t.le (e.le r.sub)))
theorem Pst.newLst {ds : List D} {vs : List V} {Q : VK} (h : Pst c σ F (M.ret (.lst ds) ρ) Q) (r : R c F H σ ρ) (t : c.Dts F vs ds) {p : Addr} (hp : H p = none) : Q (.ref p) (upd H p (.lst vs)) := by
  have e : Ext c.T F H (upd F p (.lst vs)) (upd H p (.lst vs)) := .new r.sub hp
  exact h _ _ _ (r.ext e) (e.le r.sub) (.lst upd_same (t.le (e.le r.sub)))
theorem Pst.no {Q : VK} {P : Prop} (h : Pst c σ F ((M.no : M D) ρ) Q) : P := False.elim h

/-! ### names, constants -/
def M.var (i : Nat) : M D := fun ρ => match ρ[i]? with
  | some (.im d) => .ok d ρ
  | some (.ow d) => .ok d (ρ.set i (.im d))
  | _ => .no
theorem Pst.var {i : Nat} {Q : VK} (r : R c F H σ ρ) (h : Pst c σ F (M.var i ρ) Q) : tVar i σ H Q := by
  unfold M.var at h
  have x := r.sl i
  cases e : ρ[i]? with
  | none => rw [e] at h; exact h.elim
  | some s =>
    rw [e] at h x
    cases s with
    | im d => obtain ⟨v, e1, t⟩ := x; exact ⟨v, e1, h v F H r (.refl _) t⟩
    | ow d => obtain ⟨v, F', e1, l, r', t⟩ := r.freeze e; exact ⟨v, e1, h v F' H r' l t⟩
    | un => exact h.elim
    | bo d => exact h.elim
theorem de_v (i : Nat) {x : Str} {pos : Pos} (hN : X.N[i]? = some x := by rfl) (hv : Vis X.env.scope x := by first | exact Or.inl rfl | exact Or.inr (Or.inl rfl) | exact Or.inr (Or.inr rfl)) (hd : (x == ("__debug__" : Str)) = false := by decide)
    (hcd : (x == ("__classdict__" : Str)) = false := by decide) : DE X c (.Name x pos) (M.var i) := PEw (pe_var hN hv hd hcd) fun σ H Q ⟨F, ρ, r, h⟩ => h.var r
theorem de_int {i j pos} : DE X c (.Constant (.int i) j pos) (M.ret (.int i)) := PEw pe_int fun σ H Q ⟨F, ρ, r, h⟩ => h.ret r (.int i)
theorem de_bl {b j pos} : DE X c (.Constant (.bool b) j pos) (M.ret (.bl b)) := PEw pe_bl fun σ H Q ⟨F, ρ, r, h⟩ => h.ret r (.bl b)
theorem de_non {j pos} : DE X c (.Constant .none j pos) (M.ret .non) := PEw pe_non fun σ H Q ⟨F, ρ, r, h⟩ => h.ret r .non
theorem de_str {x j pos} : DE X c (.Constant (.str x) j pos) (M.ret (.str x)) := PEw pe_str fun σ H Q ⟨F, ρ, r, h⟩ => h.ret r (.str x)
/-- a constant of the module -/
theorem de_glob {x : Str} {v : V} {u : Value} {d : D} {pos : Pos} (hg : Gl X x) (hm : X.mg x = some u) (rv : RelV v u) (t : ∀ F, c.Dt F v d) (hd : (x == ("__debug__" : Str)) = false := by decide) : DE X c (.Name x pos) (M.ret d) :=
  PEw (pe_glob hg hm rv hd) fun σ H Q ⟨F, ρ, r, h⟩ => h.ret r (t F)

/-! ### operators -/
def OpD (c : Fc) (r : R2) (g : D → D → M D) : Prop := ∀ (F H : Hp) (σ : L2.St) (ρ : Sls) (x y : V) (d e : D) (Q : VK), R c F H σ ρ → c.Dt F x d → c.Dt F y e → Pst c σ F (g d e ρ) Q → r x y H Q
variable {a b e1 : Expr} {fa fb : M D} {pos : Pos} {r : R2} {g : D → D → M D}
def M.two (fa fb : M D) (g : D → D → M D) : M D := fa.bind fun x => fb.bind fun y => g x y
theorem two_tOp {Q : VK} (hg : OpD c r g) (rr : R c F H σ ρ) (h : Pst c σ F (M.two fa fb g ρ) Q) : tOp r (tE c fa) (tE c fb) σ H Q :=
  ⟨F, ρ, rr, (Pst.bind h).mono (.refl _) fun x H1 ⟨F1, ρ1, d, r1, l1, t1, h1⟩ => ⟨F1, ρ1, r1, (Pst.bind h1).mono (.refl _) fun y H2 ⟨F2, ρ2, e, r2, l2, t2, h2⟩ => hg F2 H2 σ ρ2 x y d e Q r2 (t1.le l2) t2 h2⟩⟩
theorem de_bin {op : Operator} (ho : OpR X (binaryOp op) r) (hg : OpD c r g) (ha : DE X c a fa) (hb : DE X c b fb) : DE X c (.BinOp a op b pos) (M.two fa fb g) :=
  PEw (pe_op ho ha hb) fun σ H Q ⟨F, ρ, rr, h⟩ => two_tOp hg rr h
theorem de_cmp {op : CmpOp} (ho : OpR X (compareOp op) r) (hg : OpD c r g) (ha : DE X c a fa) (hb : DE X c b fb) (hm : behindInMarks op b = false) : DE X c (.Compare a [op] [b] pos) (M.two fa fb g) :=
  PEw (pe_cmpR ho ha hb hm) fun σ H Q ⟨F, ρ, rr, h⟩ => two_tOp hg rr h
/-- a bool -/
def M.tb : D → M Bool
  | .bl b => M.ret b
  | _ => M.no
theorem Pstb.tb {m : M D} {Q : Bool → Hp → Prop} (h : Pstb c σ F ((m.bind M.tb) ρ) Q) : Pst c σ F (m ρ) fun v H1 => ∃ k, v = .bl k ∧ Q k H1 :=
  (Pstb.bind h).mono (.refl _) fun v H1 ⟨F1, ρ1, d, r1, l1, t1, h1⟩ => by
    cases d with
    | bl b => cases t1; exact ⟨b, rfl, h1 F1 H1 r1 (.refl _)⟩
    | _ => exact h1.elim
theorem dt_cmp {op : CmpOp} (ho : OpR X (compareOp op) r) (hg : OpD c r g) (ha : DE X c a fa) (hb : DE X c b fb) (hm : behindInMarks op b = false) : DT X c (.Compare a [op] [b] pos) ((M.two fa fb g).bind M.tb) :=
  PTw (pt_cmpR ho ha hb hm) fun σ H Q ⟨F, ρ, rr, h⟩ => two_tOp hg rr (Pstb.tb h)
/-- an expression whose value is a bool, as a test -/
theorem dt_val {e : Expr} {f : M D} (h : DE X c e f) (he : ∀ whole, isTrue e X.env whole = (do let v ← whole; standAt e.pos; holding [v] (truthy v)) := by intro _; rfl) : DT X c e (f.bind M.tb) :=
  PTw (pt_val h he) fun σ H Q ⟨F, ρ, rr, h⟩ => ⟨F, ρ, rr, Pstb.tb h⟩
/-- the truth of a datum -/
def truD : D → M Bool
  | .non => M.ret false
  | .bl b => M.ret b
  | .int i => M.ret (i != 0)
  | .str y => M.grd (y.length ≤ 16777216) (M.ret ((y.length : Int) != 0))
  | .lst ds | .rol ds | .tup ds => M.ret (!ds.isEmpty)
  | .dct ks => M.ret (!ks.isEmpty)
  | _ => M.no
theorem Dts.empty {K : PySem.W.Frag} {mg : Str → Option Value} {F : Hp} {vs : List V} {ds : List D} (h : Dts K mg F vs ds) : ds.isEmpty = vs.isEmpty := by
  cases h <;> rfl
theorem Pst.grd {b : Prop} [Decidable b] {m : M D} {Q : VK} (h : Pst c σ F (M.grd (decide b) m ρ) Q) : b ∧ Pst c σ F (m ρ) Q := by
  unfold M.grd at h
  by_cases z : b
  · rw [decide_eq_true z] at h; exact ⟨z, h⟩
  · rw [decide_eq_false z] at h; exact h.elim
theorem Pstb.grd {b : Prop} [Decidable b] {m : M Bool} {Q : Bool → Hp → Prop} (h : Pstb c σ F (M.grd (decide b) m ρ) Q) : b ∧ Pstb c σ F (m ρ) Q := by
  unfold M.grd at h
  by_cases z : b
  · rw [decide_eq_true z] at h; exact ⟨z, h⟩
  · rw [decide_eq_false z] at h; exact h.elim
theorem line_eq : (sizeLine : Nat) = 16777216 := sizeLine_eq
theorem tru_D {Q : Bool → Hp → Prop} {v : V} {d : D} {ρ : Sls} (rr : R c F H σ ρ) (t : c.Dt F v d) (h : Pstb c σ F (truD d ρ) Q) : ∃ k, TruV c.K v H k ∧ Q k H := by
  have lst : ∀ {a xs}, F a = some (.lst xs) → SqL c.K H a xs := fun e => .inl (.inl (rr.sub _ _ e))
  cases t with
  | non => exact ⟨_, rfl, h F H rr (.refl _)⟩
  | bl b => exact ⟨_, rfl, h F H rr (.refl _)⟩
  | int i => exact ⟨_, rfl, h F H rr (.refl _)⟩
  | str x =>
    obtain ⟨z, h⟩ := Pstb.grd (b := x.length ≤ 16777216) h
    exact ⟨_, ⟨by rw [line_eq]; exact z, rfl⟩, h F H rr (.refl _)⟩
  | lst e t => exact ⟨_, .inl ⟨_, lst e, rfl⟩, by rw [← t.empty]; exact h F H rr (.refl _)⟩
  | rol e t => exact ⟨_, .inl ⟨_, SqL.le rr.sub e, rfl⟩, by rw [← t.empty]; exact h F H rr (.refl _)⟩
  | tup e t => exact ⟨_, .inr (.inl ⟨_, SqT.le rr.sub e, rfl⟩), by rw [← t.empty]; exact h F H rr (.refl _)⟩
  | @dct a kvs kds e k t => exact ⟨_, .inr (.inr ⟨_, rr.sub _ _ e, rfl⟩), by
      have q : (!kds.isEmpty) = !kvs.isEmpty := by
        have z := t.empty
        cases kvs <;> cases kds <;> simp_all
      rw [← q]; exact h F H rr (.refl _)⟩
  | ob => exact h.elim
  | ex => exact h.elim
  | ex0 => exact h.elim
  | ty => exact h.elim
  | cl => exact h.elim
theorem dt_tru (fx : Fit X c) {e : Expr} {f : M D} (h : DE X c e f) (he : ∀ whole, isTrue e X.env whole = (do let v ← whole; standAt e.pos; holding [v] (truthy v)) := by intro _; rfl) : DT X c e (f.bind truD) :=
  PTw (pt_truth h he) fun σ H Q ⟨F, ρ, rr, h⟩ => ⟨F, ρ, rr, (Pstb.bind h).mono (.refl _) fun v H1 ⟨F1, ρ1, d, r1, l1, t1, h1⟩ => by
    rw [fx.k]; exact tru_D r1 t1 h1⟩

/-! ### and, or, not -/
def DW (X : Cx) (c : Fc) (e : Expr) (f : M Bool) : Prop := PW X e (tTe c f)
variable {ga gb : M Bool} {rest : List Expr}
def M.and (ga gb : M Bool) : M Bool := ga.bind fun x => if x then gb else M.ret false
def M.or (ga gb : M Bool) : M Bool := ga.bind fun x => if x then M.ret true else gb
theorem dw_and1 (ha : DT X c a ga) : DW X c (.BoolOp .And [a] pos) ga := pw_and1 ha
theorem dw_or1 (ha : DT X c a ga) : DW X c (.BoolOp .Or [a] pos) ga := pw_or1 ha
theorem dw_and (ha : DT X c a ga) (hb : DW X c (.BoolOp .And (b :: rest) pos) gb) : DW X c (.BoolOp .And (a :: b :: rest) pos) (ga.and gb) :=
  PWw (pw_and ha hb) fun σ H Q ⟨F, ρ, rr, h⟩ => ⟨F, ρ, rr, (Pstb.bindB h).mono (.refl _) fun v H1 ⟨F1, ρ1, r1, l1, h1⟩ => by
    cases v with
    | true => exact iteT ⟨F1, ρ1, r1, h1⟩
    | false => exact iteF (h1 F1 H1 r1 (.refl _))⟩
theorem dw_or (ha : DT X c a ga) (hb : DW X c (.BoolOp .Or (b :: rest) pos) gb) : DW X c (.BoolOp .Or (a :: b :: rest) pos) (ga.or gb) :=
  PWw (pw_or ha hb) fun σ H Q ⟨F, ρ, rr, h⟩ => ⟨F, ρ, rr, (Pstb.bindB h).mono (.refl _) fun v H1 ⟨F1, ρ1, r1, l1, h1⟩ => by
    cases v with
    | true => exact iteT (h1 F1 H1 r1 (.refl _))
    | false => exact iteF ⟨F1, ρ1, r1, h1⟩⟩
theorem dt_w {e : Expr} {f : M Bool} (h : DW X c e f) : DT X c e f := h.pt
theorem dt_not (ha : DT X c a ga) : DT X c (.UnaryOp .Not a pos) (ga.bind fun x => M.ret (!x)) :=
  PTw (pt_not ha) fun σ H Q ⟨F, ρ, rr, h⟩ => ⟨F, ρ, rr, (Pstb.bindB h).mono (.refl _) fun v H1 ⟨F1, ρ1, r1, l1, h1⟩ => h1 F1 H1 r1 (.refl _)⟩
/-- .. as values, bools -/
def M.andV (fa fb : M D) : M D := fa.bind fun d => match d with
  | .bl true => fb
  | .bl false => M.ret (.bl false)
  | _ => M.no
def M.orV (fa fb : M D) : M D := fa.bind fun d => match d with
  | .bl true => M.ret (.bl true)
  | .bl false => fb
  | _ => M.no
theorem de_one {op} {f : M D} (h : DE X c a f) : DE X c (.BoolOp op [a] pos) f := pe_one h
theorem de_and (ha : DE X c a fa) (hb : DE X c (.BoolOp .And (b :: rest) pos) fb) : DE X c (.BoolOp .And (a :: b :: rest) pos) (fa.andV fb) :=
  PEw (pe_and ha hb) fun σ H Q ⟨F, ρ, rr, h⟩ => ⟨F, ρ, rr, (Pst.bind h).mono (.refl _) fun v H1 ⟨F1, ρ1, d, r1, l1, t1, h1⟩ => by
    cases d with
    | bl k =>
      cases t1
      cases k with
      | true => exact ⟨true, rfl, iteT ⟨F1, ρ1, r1, h1⟩⟩
      | false => exact ⟨false, rfl, iteF (Pst.ret h1 r1 (.bl false))⟩
    | _ => exact h1.elim⟩
theorem de_or (ha : DE X c a fa) (hb : DE X c (.BoolOp .Or (b :: rest) pos) fb) : DE X c (.BoolOp .Or (a :: b :: rest) pos) (fa.orV fb) :=
  PEw (pe_or ha hb) fun σ H Q ⟨F, ρ, rr, h⟩ => ⟨F, ρ, rr, (Pst.bind h).mono (.refl _) fun v H1 ⟨F1, ρ1, d, r1, l1, t1, h1⟩ => by
    cases d with
    | bl k =>
      cases t1
      cases k with
      | true => exact ⟨true, rfl, iteT (Pst.ret h1 r1 (.bl true))⟩
      | false => exact ⟨false, rfl, iteF ⟨F1, ρ1, r1, h1⟩⟩
    | _ => exact h1.elim⟩
def M.notV (fa : M D) : M D := fa.bind fun d => match d with
  | .bl k => M.ret (.bl (!k))
  | _ => M.no
theorem de_not (ha : DE X c a fa) : DE X c (.UnaryOp .Not a pos) fa.notV :=
  PEw (pe_not ha) fun σ H Q ⟨F, ρ, rr, h⟩ => ⟨F, ρ, rr, (Pst.bind h).mono (.refl _) fun v H1 ⟨F1, ρ1, d, r1, l1, t1, h1⟩ => by
    cases d with
    | bl k => cases t1; exact ⟨k, rfl, Pst.ret h1 r1 (.bl (!k))⟩
    | _ => exact h1.elim⟩
theorem de_ifx {t : Expr} (ht : DT X c t ga) (ha : DE X c a fa) (hb : DE X c b fb) : DE X c (.IfExp t a b pos) (ga.bind fun x => if x then fa else fb) :=
  PEw (pe_ifExp ht ha hb) fun σ H Q ⟨F, ρ, rr, h⟩ => ⟨F, ρ, rr, (Pst.bindB h).mono (.refl _) fun v H1 ⟨F1, ρ1, r1, l1, h1⟩ => by
    cases v with
    | true => exact iteT ⟨F1, ρ1, r1, h1⟩
    | false => exact iteF ⟨F1, ρ1, r1, h1⟩⟩

/-! ### lists of expressions, displays -/
variable {es : List Expr} {fs : M (List D)}
def M.cons (fa : M D) (fs : M (List D)) : M (List D) := fa.bind fun d => fs.bind fun ds => M.ret (d :: ds)
theorem da_nil : DA X c [] (M.ret []) := PAw pa_nil fun σ H Q ⟨F, ρ, r, h⟩ => h [] F H r (.refl _) .nil
theorem da_cons (ha : DE X c a fa) (hr : DA X c es fs) (hs : starEach (a :: es) X.env = (false, eval a X.env) :: starEach es X.env := by rfl) : DA X c (a :: es) (fa.cons fs) :=
  PAw (pa_cons ha hr hs) fun σ H Q ⟨F, ρ, rr, h⟩ => ⟨F, ρ, rr, (Psts.bind h).mono (.refl _) fun v H1 ⟨F1, ρ1, d, r1, l1, t1, h1⟩ => ⟨F1, ρ1, r1, (Psts.bindA h1).mono (.refl _) fun vs H2 ⟨F2, ρ2, ds, r2, l2, t2, h2⟩ =>
    h2 (v :: vs) F2 H2 r2 (.refl _) (.cons (t1.le l2) t2)⟩⟩
def M.disp (fs : M (List D)) (k : List D → D) : M D := fs.bind fun ds => M.grd (ds.length ≤ 16777216) (M.ret (k ds))
theorem de_tup {x1} (h : DA X c es fs) : DE X c (.Tuple es x1 pos) (fs.disp .tup) :=
  PEw (pe_tup h) fun σ H Q ⟨F, ρ, rr, h⟩ => ⟨F, ρ, rr, (Pst.bindA h).mono (.refl _) fun vs H1 ⟨F1, ρ1, ds, r1, l1, t1, h1⟩ => by
    obtain ⟨z, h1⟩ := Pst.grd (b := ds.length ≤ 16777216) h1
    exact ⟨by rw [line_eq, t1.length]; exact z, fun p hp => h1.newTup r1 t1 hp⟩⟩
theorem de_lst (h : DA X c es fs) : DE X c (.List es pos) (fs.disp .lst) :=
  PEw (pe_lst h) fun σ H Q ⟨F, ρ, rr, h⟩ => ⟨F, ρ, rr, (Pst.bindA h).mono (.refl _) fun vs H1 ⟨F1, ρ1, ds, r1, l1, t1, h1⟩ => by
    obtain ⟨z, h1⟩ := Pst.grd (b := ds.length ≤ 16777216) h1
    exact ⟨by rw [line_eq, t1.length]; exact z, fun p hp => h1.newLst r1 t1 hp⟩⟩

/-! ### calls -/
def CallD (c : Fc) (r : List V → Hp → VK → Prop) (g : List D → M D) : Prop := ∀ (F H : Hp) (σ : L2.St) (ρ : Sls) (xs : List V) (ds : List D) (Q : VK), R c F H σ ρ → c.Dts F xs ds → Pst c σ F (g ds ρ) Q → r xs H Q
variable {rc : List V → Hp → VK → Prop} {gc : List D → M D} {x : Str} {p : Pos}
theorem de_callB {id : String} (hc : CallR X (.builtin id) rc) (hd : CallD c rc gc) (hg : Gl X x) (hm : X.mg x = none) (hv : bootBuiltins x = some (.builtin id)) (ha : DA X c (a :: es) fs) (hn : x ≠ "__name__" := by decide) (hdb : (x == ("__debug__" : Str)) = false := by decide)
    (he : starEach (a :: es) X.env = (false, eval a X.env) :: starEach es X.env := by rfl) (hpl : (backTo pos (starEach es X.env)).any (·.1) = false := by rfl) : DE X c (.Call (.Name x p) (a :: es) [] pos) (fs.bind gc) :=
  PEw (pe_callB hc hg hm hv ha hn hdb he hpl) fun σ H Q ⟨F, ρ, rr, h⟩ => ⟨F, ρ, rr, (Pst.bindA h).mono (.refl _) fun vs H1 ⟨F1, ρ1, ds, r1, l1, t1, h1⟩ => hd F1 H1 σ ρ1 vs ds Q r1 t1 h1⟩
theorem de_callTy {T : String} (hc : CallR X (.type T) rc) (hd : CallD c rc gc) (hg : Gl X x) (hm : X.mg x = none) (hv : bootBuiltins x = some (.type T)) (ha : DA X c (a :: es) fs) (hn : x ≠ "__name__" := by decide) (hdb : (x == ("__debug__" : Str)) = false := by decide)
    (he : starEach (a :: es) X.env = (false, eval a X.env) :: starEach es X.env := by rfl) (hpl : (backTo pos (starEach es X.env)).any (·.1) = false := by rfl) : DE X c (.Call (.Name x p) (a :: es) [] pos) (fs.bind gc) :=
  PEw (pe_callTy hc hg hm hv ha hn hdb he hpl) fun σ H Q ⟨F, ρ, rr, h⟩ => ⟨F, ρ, rr, (Pst.bindA h).mono (.refl _) fun vs H1 ⟨F1, ρ1, ds, r1, l1, t1, h1⟩ => hd F1 H1 σ ρ1 vs ds Q r1 t1 h1⟩
/-- a def of the text is called -/
theorem end_of {Q : VK} {K : PySem.W.Frag} {mg : Str → Option Value} (hk : K = c.K) (hm : mg = c.mg) (rr : R c F H σ ρ) {rs : Res D} (h : Pst c σ F (M.res rs ρ) Q) : endD K mg c.T F H rs Q (WE c.W σ) := by
  subst hk hm
  cases rs with
  | ok d => exact fun v F' H' e t => h v F' H' (rr.ext e) (e.le rr.sub) t
  | er k fs => exact fun C dd F' H' fv m e e1 e2 e3 => h C dd F' H' fv m (rr.ext e) (e.le rr.sub) e1 e2 e3
  | no => exact h.elim
def M.call (n : Nat) (f : List D → Res D) (ds : List D) : M D := M.grd (ds.length = n) (M.res (f ds))
theorem de_call {k n : Nat} {f : Addr} {fd : FuncData} {ps : List Str} {fn : List D → Res D} (fx : Fit X c) (Fn : FnOk X.prog X.w X.K X.mg X.base (L2.CX X.prog X.w) k f fd ps (spD X.K X.mg c.T n fn)) (hr : Room k X.A) (hg : Gl X x) (hm : X.mg x = some (.ref f)) (hk : PySem.W.keepIn X.K (.ref f) = true) (hb : Binds X.K fd ps [])
    (ha : DA X c (a :: es) fs) (hdb : (x == ("__debug__" : Str)) = false := by decide) (he : starEach (a :: es) X.env = (false, eval a X.env) :: starEach es X.env := by rfl) (hpl : (backTo pos (starEach es X.env)).any (·.1) = false := by rfl) :
    DE X c (.Call (.Name x p) (a :: es) [] pos) (fs.bind (M.call n fn)) :=
  PEw (pe_callS Fn hr hg hm hk hb (fun σ => passAt fx.tk σ) ha hdb he hpl) fun σ H Q ⟨F, ρ, rr, h⟩ => ⟨F, ρ, rr, (Pst.bindA h).mono (.refl _) fun vs H1 ⟨F1, ρ1, ds, r1, l1, t1, h1⟩ => by
    obtain ⟨z, h1⟩ := Pst.grd (b := ds.length = n) h1
    exact ⟨F1, ds, ⟨r1.tab, r1.ft, r1.sub⟩, by rw [fx.k, fx.mg]; exact t1, z, end_of fx.k fx.mg r1 h1⟩⟩
end
end DL

set_option Elab.async false
set_option linter.all false
set_option maxRecDepth 100000
set_option maxHeartbeats 4000000
/-! DLG: promises of defs that are called where no repr is under way (its guards are told: none). -/
namespace DL
open PySem PySem.Spec PyProof.Rows L2
/-- a def keeps its promise wherever no guard is up -/
structure FnG (P : Program) (w : World) (K : PySem.W.Frag) (mg : Str → Option Value) (base : Heap) (k : Nat) (f : Addr) (fd : FuncData) (ps : List Str) (sp : Sp) : Prop where
  len : ∀ vs H Q E, sp vs H Q E → vs.length = ps.length
  go : ∀ (A : Around) (ou : List Env) (s : Shared) (H : Hp) (args : Args) (us : List Value) (vs : List V) (Q : VK) (E : XK), Room k A → A.guards = some [] → Env0 P w K mg base A ou s H → BindsTo s fd args (ps.zip us) → Vals vs us → sp vs H Q E →
    codeAny (model P w) A (.call (.ref f) args) (CR (L2.CX P w) ou P w H s Q E) s
theorem FnG.of {P : Program} {w : World} {K : PySem.W.Frag} {mg : Str → Option Value} {base : Heap} {k : Nat} {f : Addr} {fd : FuncData} {ps : List Str} {sp : Sp} (F : FnOk P w K mg base (L2.CX P w) k f fd ps sp) : FnG P w K mg base k f fd ps sp :=
  ⟨F.len, fun A ou s H args us vs Q E hr _ => F.run A ou s H args us vs Q E hr⟩
theorem FnG.mono {P : Program} {w : World} {K : PySem.W.Frag} {mg : Str → Option Value} {base : Heap} {j k : Nat} {f : Addr} {fd : FuncData} {ps : List Str} {sp : Sp} (F : FnG P w K mg base j f fd ps sp) (h : j ≤ k) : FnG P w K mg base k f fd ps sp :=
  ⟨F.len, fun A ou s H args us vs Q E hr => F.go A ou s H args us vs Q E (hr.mono h)⟩
section
variable {P : Program} {w : World} {K : PySem.W.Frag} {mg : Str → Option Value} {base : Heap} {T : List (Addr × Str)}
theorem fnG_mk {x qual : Str} {st : Stmt} {f : Addr} {fd : FuncData} {N ps : List Str} {k : Nat} {sp : Sp} (Fn : Fun K x qual st f fd) (S : FnScope N ps (defScope st)) (len : ∀ vs H Q E, sp vs H Q E → vs.length = ps.length)
    (hbody : ∀ (cdv : Value) (A : Around) (ou : List Env) (s : Shared) (H : Hp) (vs : List V) (Q : VK) (E : XK), Room k (A.deeper (envOfC qual (defScope st) s.heap.objs.size f cdv)) → A.guards = some [] → sp vs H Q E →
      ∃ t, PSs (cxOf (L2.CX P w) P w K mg base N qual (defScope st) f cdv A ou s H E) (defBody st) t ∧ t { nx := fun _ H' => Q .non H', rt := Q } (L2.start N vs) H) : FnG P w K mg base (k + 1) f fd ps sp := by
  obtain ⟨oc, od, kV, doc, pm, an, cdv, ct, osl, rfl, lk, hcd⟩ := Fn.ex
  exact ⟨len, fun A ou s H args us vs Q E hr hg e0 hb r hsp => LamX.run_ofS lk hcd S hr e0 hb r (len _ _ _ _ hsp) fun hr' => hbody cdv A ou s H vs Q E hr' hg hsp⟩
theorem fnG_spD {x qual : Str} {st : Stmt} {f : Addr} {fd : FuncData} {N ps : List Str} {k : Nat} {g : M Out} (Fn : Fun K x qual st f fd) (S : FnScope N ps (defScope st))
    (hbody : ∀ (cdv : Value) (A : Around) (ou : List Env) (s : Shared) (H : Hp) (E : XK) (c : Fc), c.K = K → c.mg = mg → c.T = T → Fit (cxOf (L2.CX P w) P w K mg base N qual (defScope st) f cdv A ou s H E) c → Room k (A.deeper (envOfC qual (defScope st) s.heap.objs.size f cdv)) → A.guards = some [] →
      DSs (cxOf (L2.CX P w) P w K mg base N qual (defScope st) f cdv A ou s H E) c (defBody st) g) :
    FnG P w K mg base (k + 1) f fd ps (spD K mg T ps.length fun ds => resD (g (slots N.length (ds.map .im)))) := by
  refine fnG_mk Fn S (fun vs H Q E ⟨F, ds, _, t, hl, _⟩ => by rw [t.length]; exact hl) fun cdv A ou s H vs Q E hr hgd ⟨F, ds, ⟨tb, ft, sub⟩, t, hl, he⟩ => ?_
  refine ⟨_, hbody cdv A ou s H E ⟨K, mg, T, H, F, none, fun cls d _ H => E cls d H⟩ rfl rfl rfl ⟨rfl, rfl, takes_of rfl rfl rfl rfl, fun _ _ _ _ _ h => h⟩ hr hgd, F, slots N.length (ds.map .im), ?_, ?_⟩
  · exact ⟨sub, fun a o _ e _ => e, tb, ft, fun a e => e, fun a _ => rfl, fun _ e => (by cases e), slots_len (by rw [t.length, List.length_map]) rfl, fun i => slots_get t H i, fun i d h1 => (slots_nb h1).elim, fun i j p d d' h1 _ _ _ => (slots_im h1).elim⟩
  · have he : endD K mg T F H (resD (g (slots N.length (ds.map .im)))) Q E := he
    generalize g (slots N.length (ds.map .im)) = r at he
    cases r with
    | ok o ρ' =>
      cases o with
      | nx => exact fun σ' F' H' r l => he .non F' H' ⟨fun a o n e => r.ent a o n e (by intro z; cases z), fun _ => r.tab, r.dom, fun a e => r.frz a e, r.sub⟩ .non
      | rt d => exact fun σ' v F' H' r l dt => he v F' H' ⟨fun a o n e => r.ent a o n e (by intro z; cases z), fun _ => r.tab, r.dom, fun a e => r.frz a e, r.sub⟩ dt
      | bk => exact he.elim
      | ct => exact he.elim
    | er kk fs ρ' => exact fun C dd σ' F' H' fv m r l e1 e2 e3 => he C dd F' H' fv m ⟨fun a o n e => r.ent a o n e (by intro z; cases z), fun _ => r.tab, r.dom, fun a e => r.frz a e, r.sub⟩ e1 e2 e3
    | no => exact he.elim
end
section
variable {X : Cx} {c : Fc} {a : Expr} {es : List Expr} {fs : M (List D)} {x : Str} {p pos : Pos}
/-- the callee runs from here -/
theorem run_G {k : Nat} {f : Addr} {fd : FuncData} {ps : List Str} {sp : Sp} {W : WX} {pins : List (Addr × Obj)} {σ : L2.St} {H : Hp} {s : Shared} {Q : VK} {us : List Value} {vs : List V} (Fn : FnG X.prog X.w X.K X.mg X.base k f fd ps sp) (hr : Room k X.A) (hgd : X.A.guards = some []) (hb : Binds X.K fd ps [])
    (tk : Takes X W) (I : Inv X pins σ H s) (r : Vals vs us) (h : sp vs H Q (WE W σ)) : wpAny (model X.prog X.w) X.A (call (.ref f) us) (EP X pins σ Q) X.xe s := by
  have hl : us.length = ps.length := by rw [← r.length]; exact Fn.len _ _ _ _ h
  have b := hb s us I.kIn (by rw [List.append_nil]; exact hl)
  rw [List.append_nil] at b
  refine wpAny_call (codeAny_mono (Fn.go X.A X.stack s H ⟨us, []⟩ us vs Q (WE W σ) hr hgd I.env0 b r h) fun res s2 hq => ?_)
  match res, hq with
  | .error e, hq => exact passAt tk σ pins H s e s2 I hq
  | .ok (.ret u), hq => exact I.after hq
  | .ok .next, hq => exact hq.elim
  | .ok .brk, hq => exact hq.elim
  | .ok .cont, hq => exact hq.elim
theorem pe_G {k : Nat} {f : Addr} {fd : FuncData} {ps : List Str} {sp : Sp} {W : WX} {t : TA} (Fn : FnG X.prog X.w X.K X.mg X.base k f fd ps sp) (hr : Room k X.A) (hgd : X.A.guards = some []) (hg : Gl X x) (hm : X.mg x = some (.ref f)) (hk : PySem.W.keepIn X.K (.ref f) = true) (hb : Binds X.K fd ps [])
    (tk : Takes X W) (ha : PA X (a :: es) t) (hdb : (x == ("__debug__" : Str)) = false := by decide) (he : starEach (a :: es) X.env = (false, eval a X.env) :: starEach es X.env := by rfl) (hpl : (backTo pos (starEach es X.env)).any (·.1) = false := by rfl) :
    PE X (.Call (.Name x p) (a :: es) [] pos) (tCallS sp (WE W) t) :=
  ⟨fun pins s σ H Q I h => wpAny_Call_Name_kw (ld_glob I hg hm (PySem.W.callWith_K (h₀ := X.base) I.ok.mod.kin hk (thn (ha.run pos pins s σ H _ I h) fun us s1 ⟨vs, H1, I1, r, q⟩ => ⟨I1.kIn, run_G Fn hr hgd hb tk I1 r q⟩) he hpl) hdb)⟩
theorem de_callG {k n : Nat} {f : Addr} {fd : FuncData} {ps : List Str} {fn : List D → Res D} (fx : Fit X c) (Fn : FnG X.prog X.w X.K X.mg X.base k f fd ps (spD X.K X.mg c.T n fn)) (hr : Room k X.A) (hgd : X.A.guards = some []) (hg : Gl X x) (hm : X.mg x = some (.ref f)) (hk : PySem.W.keepIn X.K (.ref f) = true) (hb : Binds X.K fd ps [])
    (ha : DA X c (a :: es) fs) (hdb : (x == ("__debug__" : Str)) = false := by decide) (he : starEach (a :: es) X.env = (false, eval a X.env) :: starEach es X.env := by rfl) (hpl : (backTo pos (starEach es X.env)).any (·.1) = false := by rfl) :
    DE X c (.Call (.Name x p) (a :: es) [] pos) (fs.bind (M.call n fn)) :=
  PEw (pe_G Fn hr hgd hg hm hk hb fx.tk ha hdb he hpl) fun σ H Q ⟨F, ρ, rr, h⟩ => ⟨F, ρ, rr, (Pst.bindA h).mono (.refl _) fun vs H1 ⟨F1, ρ1, ds, r1, l1, t1, h1⟩ => by
    obtain ⟨z, h1⟩ := Pst.grd (b := ds.length = n) h1
    exact ⟨F1, ds, ⟨r1.tab, r1.ft, r1.sub⟩, by rw [fx.k, fx.mg]; exact t1, z, end_of fx.k fx.mg r1 h1⟩⟩

/-! ### a call that changes an own list of the caller's: f(tub, ..) -/
/-- what the caller's slot holds: an own list or the one that it was handed -/
theorem R.extB {F H F' H' : Hp} {σ : L2.St} {ρ : Sls} {i : Nat} {p : Addr} {t t' : D} {sl : D → Sl} (hsl : (sl = .ow ∨ sl = .bo)) (r : R c F H σ ρ) (h : ρ[i]? = some (sl t)) (hp : σ[i]? = some (some (.ref p))) (e : ExtB c.T p F H F' H') (o : OwnOk c.K c.mg F' H' p t') : R c F' H' σ (ρ.set i (sl t')) := by
  have hi : i < ρ.length := (List.getElem?_eq_some_iff.mp h).1
  have x := r.sl i
  rw [h, hp] at x
  have facts : F p = none ∧ H p ≠ none := by
    rcases hsl with z | z <;> subst z
    · obtain ⟨q, e1, e2, _, e4⟩ := x
      cases e1
      obtain ⟨o, eo⟩ := e4.there
      exact ⟨e2, by rw [eo]; exact fun z => by cases z⟩
    · obtain ⟨q, e1, e2, _, e4⟩ := x
      cases e1
      obtain ⟨o, eo⟩ := e4.there
      exact ⟨e2, by rw [eo]; exact fun z => by cases z⟩
  have l : Le F F' := fun a u q => by rw [e.old a (by rw [r.sub a u q]; exact fun z => by cases z)]; exact q
  have hB : ∀ q, c.G q ≠ none → c.B ≠ some q → q ≠ p := fun q g b z => by
    subst z
    rcases hsl with z | z <;> subst z
    · obtain ⟨q', e1, _, e3, _⟩ := x
      cases e1
      exact g e3
    · obtain ⟨q', e1, _, e3, _⟩ := x
      cases e1
      exact b e3
  refine ⟨e.sub, fun a u nt q n => e.h a u nt (hB a (by rw [q]; exact fun z => by cases z) n) (r.ent a u nt q n), e.tab r.tab, fun q hq => by
      obtain ⟨ps, eq, _⟩ := r.tab q hq
      rw [e.old _ (some_ne eq)]; exact r.ft q hq, fun a g => e.dm a (r.dom a g), fun a g => by rw [e.old a (r.dom a g)]; exact r.frz a g, r.bor, by rw [List.length_set]; exact r.len, fun j => ?_, fun j d1 h1 => ?_, fun j k q d d' h1 h2 h3 h4 => ?_⟩
  · by_cases zj : j = i
    · subst zj
      rw [List.getElem?_set_self hi, hp]
      have fp : F' p = none := by rw [e.old p facts.2]; exact facts.1
      rcases hsl with z | z <;> subst z
      · obtain ⟨q, e1, _, e3, _⟩ := x
        cases e1
        exact ⟨p, rfl, fp, e3, o⟩
      · obtain ⟨q, e1, _, e3, _⟩ := x
        cases e1
        exact ⟨p, rfl, fp, e3, o⟩
    · rw [List.getElem?_set_ne (Ne.symm zj)]
      have y := r.sl j
      have keep : ∀ {q : Addr} {d : D}, q ≠ p → F q = none → OwnOk c.K c.mg F H q d → F' q = none ∧ OwnOk c.K c.mg F' H' q d := fun {q d} nq f0 ow => by
        obtain ⟨u, eu⟩ := ow.there
        exact ⟨by rw [e.old q (by rw [eu]; exact fun z => by cases z)]; exact f0, ow.le l fun u' eu' => e.h q u' (ow.noT r.tab) nq eu'⟩
      revert y
      cases hs : ρ[j]? with
      | none => exact fun _ => True.intro
      | some s =>
        cases s with
        | un => exact fun _ => True.intro
        | im d => exact fun ⟨v, a1, a2⟩ => ⟨v, a1, a2.le l⟩
        | ow d =>
          rintro ⟨q, a1, a2, a3, a4⟩
          have nq : q ≠ p := fun z => by
            subst z
            rcases hsl with zz | zz <;> subst zz
            · exact zj (r.own j i q d t hs h a1 hp)
            · obtain ⟨q', e1, _, e3, _⟩ := x
              cases e1
              exact r.bor q e3 a3
          obtain ⟨b1, b2⟩ := keep nq a2 a4
          exact ⟨q, a1, b1, a3, b2⟩
        | bo d =>
          rintro ⟨q, a1, a2, a3, a4⟩
          have nq : q ≠ p := fun z => by
            subst z
            rcases hsl with zz | zz <;> subst zz
            · obtain ⟨q', e1, _, e3, _⟩ := x
              cases e1
              exact (r.bor q a3 e3).elim
            · exact zj ((r.one j d hs).trans (r.one i t h).symm)
          obtain ⟨b1, b2⟩ := keep nq a2 a4
          exact ⟨q, a1, b1, a3, b2⟩
  · by_cases zj : j = i
    · subst zj
      rw [List.getElem?_set_self hi] at h1
      rcases hsl with z | z <;> subst z
      · cases h1
      · exact r.one j t h
    · rw [List.getElem?_set_ne (Ne.symm zj)] at h1
      exact r.one j d1 h1
  · by_cases zj : j = i
    · by_cases zk : k = i
      · rw [zj, zk]
      · subst zj
        rw [List.getElem?_set_self hi] at h1
        rw [List.getElem?_set_ne (Ne.symm zk)] at h2
        rcases hsl with z | z <;> subst z
        · exact r.own j k q t d' h h2 h3 h4
        · cases h1
    · rw [List.getElem?_set_ne (Ne.symm zj)] at h1
      by_cases zk : k = i
      · subst zk
        rw [List.getElem?_set_self hi] at h2
        rcases hsl with z | z <;> subst z
        · exact r.own j k q d t h1 h h3 h4
        · cases h2
      · rw [List.getElem?_set_ne (Ne.symm zk)] at h2
        exact r.own j k q d d' h1 h2 h3 h4
end
end DL

set_option Elab.async false
set_option linter.all false
set_option maxRecDepth 100000
set_option maxHeartbeats 4000000
/-! DL4: operators and built-ins on data. -/
namespace DL
open PySem PySem.Spec PyProof.Rows L2
section
variable {X : Cx} {c : Fc} {F H : Hp} {σ : L2.St} {ρ : Sls}
theorem Le.sqL {K : PySem.W.Frag} {a : Addr} {xs : List V} (s : Le F H) (h : F a = some (.lst xs)) : SqL K H a xs := .inl (.inl (s _ _ h))

/-! ### + - * // % ** -/
def gAdd : D → D → M D
  | .int i, .int j => M.ret (.int (i + j))
  | .str x, .str y => M.grd (x.length + y.length ≤ 16777216) (M.ret (.str (x ++ y)))
  | .lst a, .lst b => M.grd (a.length + b.length ≤ 16777216) (M.ret (.lst (a ++ b)))
  | .tup a, .tup b => M.grd (a.length + b.length ≤ 16777216) (M.ret (.tup (a ++ b)))
  | _, _ => M.no
theorem opd_add (fx : Fit X c) : OpD c (fun x y H Q => rI0 (fun i j => .int (i + j)) x y H Q ∨ (∃ i j, x = .str i ∧ y = .str j ∧ i.length + j.length ≤ sizeLine ∧ Q (.str (i ++ j)) H) ∨ rCat x y H Q ∨ rCatA X.K x y H Q) gAdd := by
  intro F H σ ρ x y d e Q r tx ty h
  rw [fx.k]
  cases tx with
  | int i =>
    cases ty with
    | int j => exact .inl ⟨i, j, rfl, rfl, h.ret r (.int _)⟩
    | _ => exact False.elim h
  | str i =>
    cases ty with
    | str j =>
      obtain ⟨z, h⟩ := Pst.grd (b := i.length + j.length ≤ 16777216) h
      exact .inr (.inl ⟨i, j, rfl, rfl, by rw [line_eq]; exact z, h.ret r (.str _)⟩)
    | _ => exact False.elim h
  | @lst a xs ds e1 t1 =>
    cases ty with
    | @lst b ys es e2 t2 =>
      obtain ⟨z, h⟩ := Pst.grd (b := ds.length + es.length ≤ 16777216) h
      exact .inr (.inr (.inl ⟨a, b, xs, ys, rfl, rfl, r.sub _ _ e1, r.sub _ _ e2, by rw [line_eq, t1.length, t2.length]; exact z, fun p hp => h.newLst r (t1.append t2) hp⟩))
    | _ => exact False.elim h
  | @tup a xs ds e1 t1 =>
    cases ty with
    | @tup b ys es e2 t2 =>
      obtain ⟨z, h⟩ := Pst.grd (b := ds.length + es.length ≤ 16777216) h
      refine .inr (.inr (.inr ⟨a, b, xs, ys, rfl, rfl, SqT.le r.sub e1, SqT.le r.sub e2, by rw [line_eq, t1.length, t2.length]; exact z, fun zx => ?_, fun _ zy => ?_, fun _ _ p hp => h.newTup r (t1.append t2) hp⟩))
      · subst zx; cases t1; exact h.ret r (.tup e2 t2)
      · subst zy; cases t2; rw [List.append_nil] at h; exact h.ret r (.tup e1 t1)
    | _ => exact False.elim h
  | _ => exact False.elim h
variable {a b : Expr} {fa fb : M D} {pos : Pos}
theorem de_add (fx : Fit X c) (ha : DE X c a fa) (hb : DE X c b fb) : DE X c (.BinOp a .Add b pos) (M.two fa fb gAdd) := de_bin (op_add.or (op_add_str.or (op_cat.or op_catA))) (opd_add fx) ha hb
def gInt (p : Int → Int → Bool) (g : Int → Int → D) : D → D → M D
  | .int i, .int j => M.grd (p i j) (M.ret (g i j))
  | _, _ => M.no
theorem Pst.grdB {p : Bool} {m : M D} {Q : VK} (h : Pst c σ F (M.grd p m ρ) Q) : p = true ∧ Pst c σ F (m ρ) Q := by
  unfold M.grd at h
  cases p with
  | true => exact ⟨rfl, h⟩
  | false => exact h.elim
theorem opd_I {C : Int → Int → Prop} {g : Int → Int → V} {p : Int → Int → Bool} {gd : Int → Int → D} (hp : ∀ i j, p i j = true → C i j) (t : ∀ F i j, c.Dt F (g i j) (gd i j)) : OpD c (rI C g) (gInt p gd) := by
  intro F H σ ρ x y d e Q r tx ty h
  cases tx with
  | int i =>
    cases ty with
    | int j =>
      obtain ⟨z, h⟩ := Pst.grdB (p := p i j) h
      exact ⟨i, j, rfl, rfl, hp i j z, h.ret r (t F i j)⟩
    | _ => exact False.elim h
  | _ => exact False.elim h
def gInt0 (g : Int → Int → D) : D → D → M D
  | .int i, .int j => M.ret (g i j)
  | _, _ => M.no
theorem opd_I0 {g : Int → Int → V} {gd : Int → Int → D} (t : ∀ F i j, c.Dt F (g i j) (gd i j)) : OpD c (rI0 g) (gInt0 gd) := by
  intro F H σ ρ x y d e Q r tx ty h
  cases tx with
  | int i =>
    cases ty with
    | int j => exact ⟨i, j, rfl, rfl, h.ret r (t F i j)⟩
    | _ => exact False.elim h
  | _ => exact False.elim h
def gSub := gInt0 fun i j => .int (i - j)
theorem de_sub (ha : DE X c a fa) (hb : DE X c b fb) : DE X c (.BinOp a .Sub b pos) (M.two fa fb gSub) := de_bin op_sub (opd_I0 fun _ _ _ => .int _) ha hb
def gMul := gInt (fun i j => (decide (-(2 ^ 64) < i) && decide (i < 2 ^ 64)) || (decide (-(2 ^ 64) < j) && decide (j < 2 ^ 64))) fun i j => .int (i * j)
theorem de_mul (ha : DE X c a fa) (hb : DE X c b fb) : DE X c (.BinOp a .Mult b pos) (M.two fa fb gMul) := de_bin op_mul (opd_I (fun i j h => by
  rcases Bool.or_eq_true_iff.mp h with h | h
  · obtain ⟨h1, h2⟩ := Bool.and_eq_true_iff.mp h; exact .inl ⟨of_decide_eq_true h1, of_decide_eq_true h2⟩
  · obtain ⟨h1, h2⟩ := Bool.and_eq_true_iff.mp h; exact .inr ⟨of_decide_eq_true h1, of_decide_eq_true h2⟩) fun _ _ _ => .int _) ha hb
def gDiv := gInt (fun _ j => decide (0 < j) && decide (j < 1073741824)) fun i j => .int (i / j)
theorem de_div (ha : DE X c a fa) (hb : DE X c b fb) : DE X c (.BinOp a .FloorDiv b pos) (M.two fa fb gDiv) := de_bin op_fdiv (opd_I (fun i j h => by
  obtain ⟨h1, h2⟩ := Bool.and_eq_true_iff.mp h; exact ⟨of_decide_eq_true h1, of_decide_eq_true h2⟩) fun _ _ _ => .int _) ha hb
def gMod := gInt (fun _ j => decide (0 < j)) fun i j => .int (i % j)
theorem de_mod (ha : DE X c a fa) (hb : DE X c b fb) : DE X c (.BinOp a .Mod b pos) (M.two fa fb gMod) := de_bin op_mod (opd_I (fun i j h => of_decide_eq_true h) fun _ _ _ => .int _) ha hb
def gPow := gInt (fun i j => decide (0 ≤ j) && (decide (j ≤ 1000000) && decide (i.natAbs < 2 ^ 64))) fun i j => .int (i ^ j.toNat)
theorem de_pow (ha : DE X c a fa) (hb : DE X c b fb) : DE X c (.BinOp a .Pow b pos) (M.two fa fb gPow) := de_bin op_pow (opd_I (fun i j h => by
  obtain ⟨h1, h2⟩ := Bool.and_eq_true_iff.mp h
  obtain ⟨h2, h3⟩ := Bool.and_eq_true_iff.mp h2
  exact ⟨of_decide_eq_true h1, of_decide_eq_true h2, of_decide_eq_true h3⟩) fun _ _ _ => .int _) ha hb
/-- a list times a number -/
def gRep : D → D → M D
  | .lst ds, .int k => M.grd (decide (-(2 ^ 63) ≤ k) && (decide (k < 2 ^ 63) && decide (ds.length * k.toNat ≤ 16777216))) (M.ret (.lst (List.replicate k.toNat ds).flatten))
  | _, _ => M.no
theorem Dts.rep {K : PySem.W.Frag} {mg : Str → Option Value} {F : Hp} {vs : List V} {ds : List D} (h : Dts K mg F vs ds) : ∀ k : Nat, Dts K mg F (List.replicate k vs).flatten (List.replicate k ds).flatten
  | 0 => .nil
  | k + 1 => by
    rw [List.replicate_succ, List.replicate_succ, List.flatten_cons, List.flatten_cons]
    exact h.append (h.rep k)
theorem de_rep (ha : DE X c a fa) (hb : DE X c b fb) : DE X c (.BinOp a .Mult b pos) (M.two fa fb gRep) := de_bin op_rep (by
  intro F H σ ρ x y d e Q r tx ty h
  cases tx with
  | @lst l xs ds e1 t1 =>
    cases ty with
    | int k =>
      obtain ⟨z, h⟩ := Pst.grdB (p := decide (-(2 ^ 63) ≤ k) && (decide (k < 2 ^ 63) && decide (ds.length * k.toNat ≤ 16777216))) h
      obtain ⟨z1, z2⟩ := Bool.and_eq_true_iff.mp z
      obtain ⟨z2, z3⟩ := Bool.and_eq_true_iff.mp z2
      exact ⟨l, k, xs, rfl, rfl, r.sub _ _ e1, of_decide_eq_true z1, of_decide_eq_true z2, by rw [line_eq, t1.length]; exact of_decide_eq_true z3, fun p hp => h.newLst r (t1.rep _) hp⟩
    | _ => exact False.elim h
  | _ => exact False.elim h) ha hb
/-- -i -/
def M.neg (fa : M D) : M D := fa.bind fun d => match d with
  | .int i => M.ret (.int (-i))
  | _ => M.no
theorem de_neg (ha : DE X c a fa) : DE X c (.UnaryOp .USub a pos) fa.neg := PEw (pe_un un_neg ha) fun σ H Q ⟨F, ρ, rr, h⟩ => ⟨F, ρ, rr, (Pst.bind h).mono (.refl _) fun v H1 ⟨F1, ρ1, d, r1, l1, t1, h1⟩ => by
  cases t1 with
  | int i => exact ⟨i, rfl, Pst.ret h1 r1 (.int _)⟩
  | _ => exact h1.elim⟩

/-! ### < <= > >= -/
def gLtS (lt : Int → Int → Bool) (ls : List Nat → List Nat → Bool) : D → D → M D
  | .int i, .int j => M.ret (.bl (lt i j))
  | .str x, .str y => M.ret (.bl (ls x.cps.toList y.cps.toList))
  | _, _ => M.no
def gLt := gLtS (fun i j => decide (i < j)) fun x y => decide (x < y)
def gLe := gLtS (fun i j => decide (i ≤ j)) fun x y => !decide (y < x)
def gGt := gLtS (fun i j => decide (j < i)) fun x y => decide (y < x)
def gGe := gLtS (fun i j => decide (j ≤ i)) fun x y => !decide (x < y)
theorem opd_ord {lt : Int → Int → Bool} {ls : List Nat → List Nat → Bool} : OpD c (fun x y H Q => rI0 (fun i j => .bl (lt i j)) x y H Q ∨ ∃ i j, x = .str i ∧ y = .str j ∧ Q (.bl (ls i.cps.toList j.cps.toList)) H) (gLtS lt ls) := by
  intro F H σ ρ x y d e Q r tx ty h
  cases tx with
  | int i =>
    cases ty with
    | int j => exact .inl ⟨i, j, rfl, rfl, h.ret r (.bl _)⟩
    | _ => exact False.elim h
  | str i =>
    cases ty with
    | str j => exact .inr ⟨i, j, rfl, rfl, h.ret r (.bl _)⟩
    | _ => exact False.elim h
  | _ => exact False.elim h
theorem de_lt (ha : DE X c a fa) (hb : DE X c b fb) : DE X c (.Compare a [.Lt] [b] pos) (M.two fa fb gLt) := de_cmp (op_lt.or op_lt_str) opd_ord ha hb (nomark _)
theorem de_le (ha : DE X c a fa) (hb : DE X c b fb) : DE X c (.Compare a [.LtE] [b] pos) (M.two fa fb gLe) := de_cmp (op_le.or op_le_str) opd_ord ha hb (nomark _)
theorem de_gt (ha : DE X c a fa) (hb : DE X c b fb) : DE X c (.Compare a [.Gt] [b] pos) (M.two fa fb gGt) := de_cmp (op_gt.or op_gt_str) opd_ord ha hb (nomark _)
theorem de_ge (ha : DE X c a fa) (hb : DE X c b fb) : DE X c (.Compare a [.GtE] [b] pos) (M.two fa fb gGe) := de_cmp (op_ge.or op_ge_str) opd_ord ha hb (nomark _)
theorem dt_lt (ha : DE X c a fa) (hb : DE X c b fb) : DT X c (.Compare a [.Lt] [b] pos) ((M.two fa fb gLt).bind M.tb) := dt_cmp (op_lt.or op_lt_str) opd_ord ha hb (nomark _)
theorem dt_le (ha : DE X c a fa) (hb : DE X c b fb) : DT X c (.Compare a [.LtE] [b] pos) ((M.two fa fb gLe).bind M.tb) := dt_cmp (op_le.or op_le_str) opd_ord ha hb (nomark _)
theorem dt_gt (ha : DE X c a fa) (hb : DE X c b fb) : DT X c (.Compare a [.Gt] [b] pos) ((M.two fa fb gGt).bind M.tb) := dt_cmp (op_gt.or op_gt_str) opd_ord ha hb (nomark _)
theorem dt_ge (ha : DE X c a fa) (hb : DE X c b fb) : DT X c (.Compare a [.GtE] [b] pos) ((M.two fa fb gGe).bind M.tb) := dt_cmp (op_ge.or op_ge_str) opd_ord ha hb (nomark _)
/-- a < b < e, with any two of the signs -/
def M.chain (fa fb fe : M D) (g g' : D → D → M D) : M D := fa.bind fun x => fb.bind fun y => (g x y).bind fun d => match d with
  | .bl true => fe.bind fun z => g' y z
  | .bl false => M.ret (.bl false)
  | _ => M.no
theorem de_chain {e : Expr} {fe : M D} {op op' : CmpOp} {r r' : R2} {g g' : D → D → M D} (ho : OpR X (compareOp op) r) (ho' : OpR X (compareOp op') r') (hg : OpD c r g) (hg' : OpD c r' g') (ha : DE X c a fa) (hb : DE X c b fb) (he : DE X c e fe)
    (hm : lastMarks [op, op'] [b, e] = false := by with_unfolding_all rfl) : DE X c (.Compare a [op, op'] [b, e] pos) (M.chain fa fb fe g g') :=
  PEw (pe_chain ho ho' ha hb he hm) fun σ H Q ⟨F, ρ, rr, h⟩ => ⟨F, ρ, rr, (Pst.bind h).mono (.refl _) fun x H1 ⟨F1, ρ1, d, r1, l1, t1, h1⟩ => ⟨F1, ρ1, r1, (Pst.bind h1).mono (.refl _) fun y H2 ⟨F2, ρ2, e, r2, l2, t2, h2⟩ =>
    hg F2 H2 σ ρ2 x y d e _ r2 (t1.le l2) t2 ((Pst.bind h2).mono (.refl _) fun z H3 ⟨F3, ρ3, k, r3, l3, t3, h3⟩ => by
      cases t3 with
      | bl k =>
        refine ⟨k, rfl, ?_⟩
        cases k with
        | true => exact iteT ⟨F3, ρ3, r3, (Pst.bind h3).mono (.refl _) fun w' H4 ⟨F4, ρ4, dz, r4, l4, t4, h4⟩ => hg' F4 H4 σ ρ4 y w' e dz Q r4 (t2.le (l3.trans l4)) t4 h4⟩
        | false => exact iteF (Pst.ret h3 r3 (.bl false))
      | _ => exact False.elim h3)⟩⟩
theorem de_lele {e : Expr} {fe : M D} (ha : DE X c a fa) (hb : DE X c b fb) (he : DE X c e fe) (hm : lastMarks [.LtE, .LtE] [b, e] = false := by with_unfolding_all rfl) : DE X c (.Compare a [.LtE, .LtE] [b, e] pos) (M.chain fa fb fe gLe gLe) := de_chain (op_le.or op_le_str) (op_le.or op_le_str) opd_ord opd_ord ha hb he hm

/-! ### == and != of data -/
mutual
def toPy : D → Option PyData
  | .non => some .none
  | .bl b => some (.bool b)
  | .int i => some (.int i)
  | .str x => some (.str x)
  | .lst ds => (toPys ds).map .list
  | .rol ds => (toPys ds).map .list
  | .tup ds => (toPys ds).map .tuple
  | _ => none
def toPys : List D → Option (List PyData)
  | [] => some []
  | d :: ds => match toPy d, toPys ds with
    | some p, some ps => some (p :: ps)
    | _, _ => none
end
mutual
theorem Dt.dp {K : PySem.W.Frag} {mg : Str → Option Value} {F H : Hp} (s : Le F H) : ∀ {v : V} {d : D} {p : PyData}, Dt K mg F v d → toPy d = some p → Dp K H v p
  | _, _, _, .non, e => by simp only [toPy, Option.some.injEq] at e; subst e; exact .non
  | _, _, _, .bl b, e => by simp only [toPy, Option.some.injEq] at e; subst e; exact .bl b
  | _, _, _, .int i, e => by simp only [toPy, Option.some.injEq] at e; subst e; exact .int i
  | _, _, _, .str x, e => by simp only [toPy, Option.some.injEq] at e; subst e; exact .str x
  | _, _, _, .lst h t, e => by
    simp only [toPy, Option.map_eq_some_iff] at e
    obtain ⟨ps, e1, e2⟩ := e
    subst e2
    exact .lst (s.sqL h) (t.dps s e1)
  | _, _, _, .rol h t, e => by
    simp only [toPy, Option.map_eq_some_iff] at e
    obtain ⟨ps, e1, e2⟩ := e
    subst e2
    exact .lst (SqL.le s h) (t.dps s e1)
  | _, _, _, .tup h t, e => by
    simp only [toPy, Option.map_eq_some_iff] at e
    obtain ⟨ps, e1, e2⟩ := e
    subst e2
    exact .tup (SqT.le s h) (t.dps s e1)
  | _, _, _, .dct _ _ _, e => by simp [toPy] at e
  | _, _, _, .ob _ _ _ _, e => by simp [toPy] at e
  | _, _, _, .ex _ _ _ _ _, e => by simp [toPy] at e
  | _, _, _, .ty _, e => by simp [toPy] at e
  | _, _, _, .cl _, e => by simp [toPy] at e
theorem Dts.dps {K : PySem.W.Frag} {mg : Str → Option Value} {F H : Hp} (s : Le F H) : ∀ {vs : List V} {ds : List D} {ps : List PyData}, Dts K mg F vs ds → toPys ds = some ps → DpAll K H vs ps
  | _, _, _, .nil, e => by simp only [toPys, Option.some.injEq] at e; subst e; exact .nil
  | _, d :: ds, ps, .cons h t, e => by
    cases e1 : toPy d with
    | none => simp [toPys, e1] at e
    | some p =>
      cases e2 : toPys ds with
      | none => simp [toPys, e1, e2] at e
      | some qs =>
        simp only [toPys, e1, e2, Option.some.injEq] at e
        subst e
        exact .cons (h.dp s e1) (t.dps s e2)
end
def gEqB (neg : Bool) (d e : D) : M D := match toPy d, toPy e with
  | some p, some q => M.grd (SeqAt.shaped p && SeqAt.shaped q) (M.ret (.bl (if neg then !PyData.eqv p q else PyData.eqv p q)))
  | _, _ => M.no
def gEq := gEqB false
def gNe := gEqB true
theorem eq_facts {neg : Bool} {d e : D} {Q : VK} (h : Pst c σ F (gEqB neg d e ρ) Q) : ∃ p q, toPy d = some p ∧ toPy e = some q ∧ SeqAt.shaped p = true ∧ SeqAt.shaped q = true ∧ Pst c σ F (M.ret (.bl (if neg then !PyData.eqv p q else PyData.eqv p q)) ρ) Q := by
  unfold gEqB at h
  cases e1 : toPy d with
  | none => rw [e1] at h; exact False.elim h
  | some p =>
    cases e2 : toPy e with
    | none => rw [e1, e2] at h; exact False.elim h
    | some q =>
      rw [e1, e2] at h
      obtain ⟨z, h⟩ := Pst.grdB (p := SeqAt.shaped p && SeqAt.shaped q) h
      obtain ⟨z1, z2⟩ := Bool.and_eq_true_iff.mp z
      exact ⟨p, q, rfl, rfl, z1, z2, h⟩
theorem opd_eq (fx : Fit X c) : OpD c (rEqD X.K) gEq := by
  intro F H σ ρ x y d e Q r tx ty h
  obtain ⟨p, q, e1, e2, z1, z2, h⟩ := eq_facts h
  rw [fx.k]
  exact ⟨p, q, tx.dp r.sub e1, ty.dp r.sub e2, z1, z2, h.ret r (.bl _)⟩
theorem opd_ne (fx : Fit X c) : OpD c (rNeD X.K) gNe := by
  intro F H σ ρ x y d e Q r tx ty h
  obtain ⟨p, q, e1, e2, z1, z2, h⟩ := eq_facts h
  rw [fx.k]
  exact ⟨p, q, tx.dp r.sub e1, ty.dp r.sub e2, z1, z2, h.ret r (.bl _)⟩
variable {k : Nat}
theorem de_eq (fx : Fit X c) (hr : Room k X.A) (ha : DE X c a fa) (hb : DE X c b fb) : DE X c (.Compare a [.Eq] [b] pos) (M.two fa fb gEq) := de_cmp (op_eqD hr.units) (opd_eq fx) ha hb (nomark _)
theorem de_ne (fx : Fit X c) (hr : Room k X.A) (ha : DE X c a fa) (hb : DE X c b fb) : DE X c (.Compare a [.NotEq] [b] pos) (M.two fa fb gNe) := de_cmp (op_neD hr.units) (opd_ne fx) ha hb (nomark _)
theorem dt_eq (fx : Fit X c) (hr : Room k X.A) (ha : DE X c a fa) (hb : DE X c b fb) : DT X c (.Compare a [.Eq] [b] pos) ((M.two fa fb gEq).bind M.tb) := dt_cmp (op_eqD hr.units) (opd_eq fx) ha hb (nomark _)
theorem dt_ne (fx : Fit X c) (hr : Room k X.A) (ha : DE X c a fa) (hb : DE X c b fb) : DT X c (.Compare a [.NotEq] [b] pos) ((M.two fa fb gNe).bind M.tb) := dt_cmp (op_neD hr.units) (opd_ne fx) ha hb (nomark _)

/-! ### is None, is not None -/
def D.isNon : D → Bool
  | .non => true
  | _ => false
theorem Dt.isNon {K : PySem.W.Frag} {mg : Str → Option Value} {v : V} {d : D} (t : Dt K mg F v d) : decide (v = .non) = d.isNon := by
  cases t <;> first | rfl | exact decide_eq_false (fun z => by cases z)
def gIsN (x y : D) : M D := match y with
  | .non => M.ret (.bl x.isNon)
  | _ => M.no
def gNotN (x y : D) : M D := match y with
  | .non => M.ret (.bl (!x.isNon))
  | _ => M.no
theorem opd_isN : OpD c (fun x y H Q => y = .non ∧ Q (.bl (decide (x = .non))) H) gIsN := by
  intro F H σ ρ x y d e Q r tx ty h
  cases ty with
  | non => exact ⟨rfl, by rw [tx.isNon]; exact h.ret r (.bl _)⟩
  | _ => exact False.elim h
theorem opd_notN : OpD c (fun x y H Q => y = .non ∧ Q (.bl (!decide (x = .non))) H) gNotN := by
  intro F H σ ρ x y d e Q r tx ty h
  cases ty with
  | non => exact ⟨rfl, by rw [tx.isNon]; exact h.ret r (.bl _)⟩
  | _ => exact False.elim h
theorem de_isN (ha : DE X c a fa) (hb : DE X c b fb) : DE X c (.Compare a [.Is] [b] pos) (M.two fa fb gIsN) := de_cmp op_isN opd_isN ha hb (nomark _)
theorem dt_isN (ha : DE X c a fa) (hb : DE X c b fb) : DT X c (.Compare a [.Is] [b] pos) ((M.two fa fb gIsN).bind M.tb) := dt_cmp op_isN opd_isN ha hb (nomark _)
theorem dt_notN (ha : DE X c a fa) (hb : DE X c b fb) : DT X c (.Compare a [.IsNot] [b] pos) ((M.two fa fb gNotN).bind M.tb) := dt_cmp op_notN opd_notN ha hb (nomark _)

/-! ### in, not in: a text in a text; a flat datum in a list or tuple of flat ones -/
def D.flat : D → Option V
  | .non => some .non
  | .bl b => some (.bl b)
  | .int i => some (.int i)
  | .str x => some (.str x)
  | _ => none
def flats : List D → Option (List V)
  | [] => some []
  | d :: ds => match d.flat, flats ds with
    | some v, some vs => some (v :: vs)
    | _, _ => none
theorem Dt.flat {K : PySem.W.Frag} {mg : Str → Option Value} {v w : V} {d : D} (t : Dt K mg F v d) (e : d.flat = some w) : v = w ∧ flatV w = true := by
  cases t <;> simp only [D.flat, Option.some.injEq, reduceCtorEq] at e <;> subst e <;> exact ⟨rfl, rfl⟩
theorem Dts.flats {K : PySem.W.Frag} {mg : Str → Option Value} : ∀ {vs ws : List V} {ds : List D}, Dts K mg F vs ds → DL.flats ds = some ws → vs = ws ∧ ws.all flatV = true
  | _, _, _, .nil, e => by simp only [DL.flats, Option.some.injEq] at e; subst e; exact ⟨rfl, rfl⟩
  | _, _, d :: ds, .cons h t, e => by
    cases e1 : d.flat with
    | none => simp [DL.flats, e1] at e
    | some v =>
      cases e2 : DL.flats ds with
      | none => simp [DL.flats, e1, e2] at e
      | some us =>
        simp only [DL.flats, e1, e2, Option.some.injEq] at e
        subst e
        obtain ⟨a1, a2⟩ := h.flat e1
        obtain ⟨b1, b2⟩ := t.flats e2
        subst a1 b1
        exact ⟨rfl, by rw [List.all_cons, a2, b2]; rfl⟩
def gInS (neg : Bool) (x : D) (ds : List D) : M D := match x.flat, flats ds with
  | some v, some vs => M.ret (.bl (if neg then !inV v vs else inV v vs))
  | _, _ => M.no
def strIn (x y : Str) : Bool := !(Builtin.Str.occurrences y x 0 y.length 1).isEmpty
def gInB (neg : Bool) (x y : D) : M D := match x, y with
  | .str i, .str j => M.ret (.bl (if neg then !strIn i j else strIn i j))
  | x, .lst ds => gInS neg x ds
  | x, .rol ds => gInS neg x ds
  | x, .tup ds => gInS neg x ds
  | _, _ => M.no
theorem in_seq {neg : Bool} {x : V} {d : D} {xs : List V} {ds : List D} {p : Addr} {Q : VK} (r : R c F H σ ρ) (tx : c.Dt F x d) (hp : SqL c.K H p xs ∨ SqT c.K H p xs) (t : c.Dts F xs ds) (h : Pst c σ F (gInS neg d ds ρ) Q) : rIn c.K neg x (.ref p) H Q := by
  unfold gInS at h
  cases e1 : d.flat with
  | none => rw [e1] at h; exact False.elim h
  | some v =>
    cases e2 : flats ds with
    | none => rw [e1, e2] at h; exact False.elim h
    | some vs =>
      rw [e1, e2] at h
      obtain ⟨a1, a2⟩ := tx.flat e1
      obtain ⟨b1, b2⟩ := t.flats e2
      subst a1 b1
      exact ⟨p, xs, rfl, hp, a2, b2, h.ret r (.bl _)⟩
theorem opd_in (fx : Fit X c) {neg : Bool} : OpD c (fun x y H Q => (∃ i j, x = .str i ∧ y = .str j ∧ Q (.bl (if neg then !strIn i j else strIn i j)) H) ∨ rIn X.K neg x y H Q) (gInB neg) := by
  intro F H σ ρ x y d e Q r tx ty h
  rw [fx.k]
  cases ty with
  | str j =>
    cases tx with
    | str i => exact .inl ⟨i, j, rfl, rfl, h.ret r (.bl _)⟩
    | _ => exact False.elim h
  | @lst p xs ds e1 t1 =>
    have h : Pst c σ F (gInS neg d ds ρ) Q := by cases d <;> exact h
    exact .inr (in_seq r tx (.inl (r.sub.sqL e1)) t1 h)
  | @rol p xs ds e1 t1 =>
    have h : Pst c σ F (gInS neg d ds ρ) Q := by cases d <;> exact h
    exact .inr (in_seq r tx (.inl (SqL.le r.sub e1)) t1 h)
  | @tup p xs ds e1 t1 =>
    have h : Pst c σ F (gInS neg d ds ρ) Q := by cases d <;> exact h
    exact .inr (in_seq r tx (.inr (SqT.le r.sub e1)) t1 h)
  | _ => exact False.elim (by cases d <;> exact h)
def gIn := gInB false
def gNi := gInB true
theorem de_in (fx : Fit X c) (ha : DE X c a fa) (hb : DE X c b fb) (hm : behindInMarks .In b = false := by rfl) : DE X c (.Compare a [.In] [b] pos) (M.two fa fb gIn) := de_cmp (op_in_str.or op_in_seq) (opd_in fx) ha hb hm
theorem de_ni (fx : Fit X c) (ha : DE X c a fa) (hb : DE X c b fb) (hm : behindInMarks .NotIn b = false := by rfl) : DE X c (.Compare a [.NotIn] [b] pos) (M.two fa fb gNi) := de_cmp (L2.op_notIn_str.or op_notIn_seq) (opd_in fx) ha hb hm
theorem dt_in (fx : Fit X c) (ha : DE X c a fa) (hb : DE X c b fb) (hm : behindInMarks .In b = false := by rfl) : DT X c (.Compare a [.In] [b] pos) ((M.two fa fb gIn).bind M.tb) := dt_cmp (op_in_str.or op_in_seq) (opd_in fx) ha hb hm
theorem dt_ni (fx : Fit X c) (ha : DE X c a fa) (hb : DE X c b fb) (hm : behindInMarks .NotIn b = false := by rfl) : DT X c (.Compare a [.NotIn] [b] pos) ((M.two fa fb gNi).bind M.tb) := dt_cmp (L2.op_notIn_str.or op_notIn_seq) (opd_in fx) ha hb hm
end
end DL

set_option Elab.async false
set_option linter.all false
set_option maxRecDepth 100000
set_option maxHeartbeats 4000000
/-! DL5: what is walked; for, list comprehensions; targets. -/
namespace DL
open PySem PySem.Spec PyProof.Rows L2
section
variable {X : Cx} {c : Fc} {F H : Hp} {σ : L2.St} {ρ : Sls}

/-! ### what is walked: an iterator that gives out these data -/
structure ItD (c : Fc) (F : Hp) (J : It) (ds : List D) : Prop where
  stop : ∀ (i : Nat) F' H', Le F F' → Le F' H' → ds.length ≤ i → J.stop i H'
  go : ∀ (i : Nat) (d : D) F' H', Le F F' → Le F' H' → ds[i]? = some d → J.go i H' ∧ ∀ x H2, J.yld i H' x H2 → ∃ F2, Ext c.T F' H' F2 H2 ∧ c.Dt F2 x d
theorem ItD.le {F F1 : Hp} {J : It} {ds : List D} (h : ItD c F J ds) (l : Le F F1) : ItD c F1 J ds :=
  ⟨fun i F' H' a b => h.stop i F' H' (l.trans a) b, fun i d F' H' a b => h.go i d F' H' (l.trans a) b⟩
def PIt (c : Fc) (σ : L2.St) (F : Hp) (r : Ret (List D)) (Q : It → Hp → Prop) : Prop := match r with
  | .ok ds ρ' => ∀ J F' H', R c F' H' σ ρ' → Le F F' → ItD c F' J ds → Q J H'
  | .er k fs ρ' => ∀ C dd F' H' fv, c.mg k = some (.ref C) → R c F' H' σ ρ' → Le F F' → F' dd = some (.xd fv) → fv.map (·.1) = fs.map (·.1) → c.Dts F' (fv.map (·.2)) (fs.map (·.2)) → c.W (.ref C) (some dd) σ H'
  | .no => False
def tIt (c : Fc) (f : M (List D)) : TI := fun σ H Q => ∃ F ρ, R c F H σ ρ ∧ PIt c σ F (f ρ) Q
def DI (X : Cx) (c : Fc) (tg e : Expr) (f : M (List D)) : Prop := PI X tg e (tIt c f)
theorem PIw {tg e : Expr} {t t' : TI} (h : PI X tg e t) (w : ∀ σ H Q, t' σ H Q → t σ H Q) : PI X tg e t' := ⟨fun pins s σ H Q I q => h.run pins s σ H Q I (w _ _ _ q)⟩
theorem PIt.bind {m : M D} {k : D → M (List D)} {Q : It → Hp → Prop} (h : PIt c σ F ((m.bind k) ρ) Q) : Pst c σ F (m ρ) fun v H1 => ∃ F1 ρ1 d, R c F1 H1 σ ρ1 ∧ Le F F1 ∧ c.Dt F1 v d ∧ PIt c σ F1 (k d ρ1) Q := by
  unfold M.bind at h
  cases e : m ρ with
  | ok d ρ' =>
    rw [e] at h
    refine fun v F' H' a b t => ⟨F', ρ', d, a, b, t, ?_⟩
    dsimp only at h
    cases e2 : k d ρ' with
    | ok ds ρ2 => rw [e2] at h; exact fun J F2 H2 r l i => h J F2 H2 r (b.trans l) i
    | er k fs ρ2 => rw [e2] at h; exact fun C dd F2 H2 fv m r l => h C dd F2 H2 fv m r (b.trans l)
    | no => rw [e2] at h; exact h
  | er c fs ρ' => rw [e] at h; exact h
  | no => rw [e] at h; exact h
theorem PIt.bindA {m : M (List D)} {k : List D → M (List D)} {Q : It → Hp → Prop} (h : PIt c σ F ((m.bind k) ρ) Q) : Psts c σ F (m ρ) fun v H1 => ∃ F1 ρ1 d, R c F1 H1 σ ρ1 ∧ Le F F1 ∧ c.Dts F1 v d ∧ PIt c σ F1 (k d ρ1) Q := by
  unfold M.bind at h
  cases e : m ρ with
  | ok d ρ' =>
    rw [e] at h
    refine fun v F' H' a b t => ⟨F', ρ', d, a, b, t, ?_⟩
    dsimp only at h
    cases e2 : k d ρ' with
    | ok ds ρ2 => rw [e2] at h; exact fun J F2 H2 r l i => h J F2 H2 r (b.trans l) i
    | er k fs ρ2 => rw [e2] at h; exact fun C dd F2 H2 fv m r l => h C dd F2 H2 fv m r (b.trans l)
    | no => rw [e2] at h; exact h
  | er c fs ρ' => rw [e] at h; exact h
  | no => rw [e] at h; exact h
theorem itd_list {a : Addr} {xs : List V} {ds : List D} (h : SqL c.K F a xs) (t : c.Dts F xs ds) (inj : ∀ (H' : Hp) ys, Le F H' → SqL c.K H' a ys → ys = xs) : ItD c F (Itl c.K a) ds where
  stop := fun i F' H' l s hi => ⟨xs, SqL.le (l.trans s) h, by rw [t.length]; exact hi⟩
  go := fun i d F' H' l s hi => by
    obtain ⟨x, hx, dx⟩ := t.get hi
    refine ⟨⟨xs, x, SqL.le (l.trans s) h, hx⟩, fun y H2 ⟨e, z⟩ => ⟨F', by subst e; exact .refl s, ?_⟩⟩
    have e := z xs (SqL.le (l.trans s) h)
    rw [hx] at e
    cases e
    exact dx.le l
theorem itd_tup {a : Addr} {xs : List V} {ds : List D} (h : SqT c.K F a xs) (t : c.Dts F xs ds) : ItD c F (Itt c.K a) ds where
  stop := fun i F' H' l s hi => ⟨xs, SqT.le (l.trans s) h, by rw [t.length]; exact hi⟩
  go := fun i d F' H' l s hi => by
    obtain ⟨x, hx, dx⟩ := t.get hi
    refine ⟨⟨xs, x, SqT.le (l.trans s) h, hx⟩, fun y H2 ⟨e, z⟩ => ⟨F', by subst e; exact .refl s, ?_⟩⟩
    have e := z xs (SqT.le (l.trans s) h)
    rw [hx] at e
    cases e
    exact dx.le l
variable {tg a b : Expr} {fa fb : M D} {fs : M (List D)} {pos p : Pos}
/-- over a list -/
def itemsL : D → M (List D)
  | .lst ds | .rol ds => M.ret ds
  | _ => M.no
theorem di_list (fx : Fit X c) (ha : DE X c a fa) : DI X c tg a (fa.bind itemsL) := PIw (pi_list ha) fun σ H Q ⟨F, ρ, rr, h⟩ => ⟨F, ρ, rr, (PIt.bind h).mono (.refl _) fun v H1 ⟨F1, ρ1, d, r1, l1, t1, h1⟩ => by
  rw [fx.k]
  cases t1 with
  | @lst a xs ds e t => exact ⟨a, rfl, ⟨xs, r1.sub.sqL e⟩, h1 _ F1 H1 r1 (.refl _) ⟨fun i F' H' l s hi => ⟨xs, .inl (.inl (s _ _ (l _ _ e))), by rw [t.length]; exact hi⟩, fun i d F' H' l s hi => by
      obtain ⟨x, hx, dx⟩ := t.get hi
      have q : SqL c.K H' a xs := .inl (.inl (s _ _ (l _ _ e)))
      refine ⟨⟨xs, x, q, hx⟩, fun y H2 ⟨e, z⟩ => ⟨F', by subst e; exact .refl s, ?_⟩⟩
      have e := z xs q
      rw [hx] at e
      cases e
      exact dx.le l⟩⟩
  | @rol a xs ds e t => exact ⟨a, rfl, ⟨xs, SqL.le r1.sub e⟩, h1 _ F1 H1 r1 (.refl _) ⟨fun i F' H' l s hi => ⟨xs, SqL.le (l.trans s) e, by rw [t.length]; exact hi⟩, fun i d F' H' l s hi => by
      obtain ⟨x, hx, dx⟩ := t.get hi
      have q : SqL c.K H' a xs := SqL.le (l.trans s) e
      refine ⟨⟨xs, x, q, hx⟩, fun y H2 ⟨e, z⟩ => ⟨F', by subst e; exact .refl s, ?_⟩⟩
      have e := z xs q
      rw [hx] at e
      cases e
      exact dx.le l⟩⟩
  | _ => exact False.elim h1⟩
/-- over a tuple -/
def itemsT : D → M (List D)
  | .tup ds => M.ret ds
  | _ => M.no
theorem di_tup (fx : Fit X c) (ha : DE X c a fa) : DI X c tg a (fa.bind itemsT) := PIw (pi_tup ha) fun σ H Q ⟨F, ρ, rr, h⟩ => ⟨F, ρ, rr, (PIt.bind h).mono (.refl _) fun v H1 ⟨F1, ρ1, d, r1, l1, t1, h1⟩ => by
  rw [fx.k]
  cases t1 with
  | @tup a xs ds e t => exact ⟨a, rfl, ⟨xs, SqT.le r1.sub e⟩, h1 _ F1 H1 r1 (.refl _) (itd_tup e t)⟩
  | _ => exact False.elim h1⟩
/-- over a text's signs -/
def signs (x : Str) : List D := x.cps.toList.map fun n => .str ⟨#[n]⟩
def itemsS : D → M (List D)
  | .str x => M.ret (signs x)
  | _ => M.no
theorem itd_str {x : Str} : ItD c F (Its x) (signs x) where
  stop := fun i F' H' l s hi => by
    have e : (signs x).length = x.cps.size := by unfold signs; rw [List.length_map, Array.length_toList]
    rw [e] at hi
    exact hi
  go := fun i d F' H' l s hi => by
    unfold signs at hi
    rw [List.getElem?_map] at hi
    cases e : x.cps.toList[i]? with
    | none => rw [e] at hi; cases hi
    | some n =>
      rw [e] at hi
      have lt : i < x.cps.size := by
        have := (List.getElem?_eq_some_iff.mp e).1
        rwa [Array.length_toList] at this
      refine ⟨lt, fun y H2 ⟨e1, n', e2, e3⟩ => ⟨F', by subst e1; exact .refl s, ?_⟩⟩
      have e4 : x.cps.toList[i]? = some n' := by rw [← e2]; exact Array.getElem?_toList
      rw [e] at e4
      cases e4
      cases hi
      subst e3
      exact .str _
theorem di_str (ha : DE X c a fa) : DI X c tg a (fa.bind itemsS) := PIw (pi_str ha) fun σ H Q ⟨F, ρ, rr, h⟩ => ⟨F, ρ, rr, (PIt.bind h).mono (.refl _) fun v H1 ⟨F1, ρ1, d, r1, l1, t1, h1⟩ => by
  cases t1 with
  | str x => exact ⟨x, rfl, h1 _ F1 H1 r1 (.refl _) itd_str⟩
  | _ => exact False.elim h1⟩
/-- over range(n), range(i, j) -/
def rangeD (lo : Int) (n : Nat) : List D := (List.range n).map fun (k : Nat) => .int (lo + k)
theorem rangeD_at {lo : Int} {n i : Nat} {d : D} (h : (rangeD lo n)[i]? = some d) : i < n ∧ d = .int (lo + i) := by
  unfold rangeD at h
  rw [List.getElem?_map] at h
  by_cases z : i < n
  · rw [List.getElem?_range z] at h
    exact ⟨z, (Option.some.inj h).symm⟩
  · rw [List.getElem?_eq_none (by rw [List.length_range]; exact Nat.le_of_not_lt z)] at h; cases h
theorem itd_range {lo : Int} {n : Nat} : ItD c F (Itr lo n) (rangeD lo n) where
  stop := fun i F' H' l s hi => by
    unfold rangeD at hi
    rw [List.length_map, List.length_range] at hi
    exact hi
  go := fun i d F' H' l s hi => by
    obtain ⟨z, e⟩ := rangeD_at hi
    refine ⟨z, fun y H2 ⟨e1, e2⟩ => ⟨F', by subst e1; exact .refl s, ?_⟩⟩
    subst e e2
    exact .int _
def big (j : Int) : Bool := decide (-(2 ^ 62) ≤ j) && decide (j < 2 ^ 62)
theorem big_of {j : Int} (h : big j = true) : -(2 ^ 62) ≤ j ∧ j < 2 ^ 62 := by
  obtain ⟨a, b⟩ := Bool.and_eq_true_iff.mp h
  exact ⟨of_decide_eq_true a, of_decide_eq_true b⟩
theorem PIt.grdB {p : Bool} {m : M (List D)} {Q : It → Hp → Prop} (h : PIt c σ F (M.grd p m ρ) Q) : p = true ∧ PIt c σ F (m ρ) Q := by
  unfold M.grd at h
  cases p with
  | true => exact ⟨rfl, h⟩
  | false => exact h.elim
def range1 : List D → M (List D)
  | [.int j] => M.grd (big j) (M.ret (rangeD 0 j.toNat))
  | _ => M.no
def range2 : List D → M (List D)
  | [.int i, .int j] => M.grd (big i && big j) (M.ret (rangeD i (j - i).toNat))
  | _ => M.no
theorem di_range1 (hg : Gl X "range") (hm : X.mg "range" = none) (ha : DA X c [a] fs) (hs : starEach [a] X.env = [(false, eval a X.env)] := by rfl) : DI X c tg (.Call (.Name "range" p) [a] [] pos) (fs.bind range1) :=
  PIw (pi_range1 hg hm ha hs) fun σ H Q ⟨F, ρ, rr, h⟩ => ⟨F, ρ, rr, (PIt.bindA h).mono (.refl _) fun vs H1 ⟨F1, ρ1, ds, r1, l1, t1, h1⟩ => by
    cases t1 with
    | nil => exact False.elim h1
    | cons t tt =>
      cases tt with
      | cons _ _ => exact False.elim (by cases t <;> exact h1)
      | nil =>
        cases t with
        | int j =>
          obtain ⟨z, h1⟩ := PIt.grdB (p := big j) h1
          obtain ⟨z1, z2⟩ := big_of z
          exact ⟨j, rfl, z1, z2, h1 _ F1 H1 r1 (.refl _) itd_range⟩
        | _ => exact False.elim h1⟩
theorem di_range2 (hg : Gl X "range") (hm : X.mg "range" = none) (ha : DA X c [a, b] fs) (hs : starEach [a, b] X.env = [(false, eval a X.env), (false, eval b X.env)] := by rfl) (hs2 : starEach [b] X.env = [(false, eval b X.env)] := by rfl) :
    DI X c tg (.Call (.Name "range" p) [a, b] [] pos) (fs.bind range2) :=
  PIw (pi_range2 hg hm ha hs hs2) fun σ H Q ⟨F, ρ, rr, h⟩ => ⟨F, ρ, rr, (PIt.bindA h).mono (.refl _) fun vs H1 ⟨F1, ρ1, ds, r1, l1, t1, h1⟩ => by
    cases t1 with
    | nil => exact False.elim h1
    | cons t tt =>
      cases tt with
      | nil => exact False.elim (by cases t <;> exact h1)
      | cons u uu =>
        cases uu with
        | cons _ _ => exact False.elim (by cases t <;> cases u <;> exact h1)
        | nil =>
          cases t with
          | int i =>
            cases u with
            | int j =>
              obtain ⟨z, h1⟩ := PIt.grdB (p := big i && big j) h1
              obtain ⟨za, zb⟩ := Bool.and_eq_true_iff.mp z
              obtain ⟨z1, z2⟩ := big_of za
              obtain ⟨z3, z4⟩ := big_of zb
              exact ⟨i, j, rfl, ⟨z1, z2, z3, z4⟩, h1 _ F1 H1 r1 (.refl _) itd_range⟩
            | _ => exact False.elim h1
          | _ => exact False.elim (by cases u <;> exact h1)⟩
/-- enumerate(a list) -/
def pairsD (ds : List D) : List D := (List.range ds.length).map fun (k : Nat) => .tup [.int (k : Nat), ds.getD k .non]
def enumD : List D → M (List D)
  | [.lst ds] | [.rol ds] => M.ret (pairsD ds)
  | _ => M.no
theorem pairsD_at {ds : List D} {i : Nat} {d : D} (h : (pairsD ds)[i]? = some d) : ∃ x, ds[i]? = some x ∧ d = .tup [.int (i : Nat), x] := by
  unfold pairsD at h
  rw [List.getElem?_map] at h
  by_cases z : i < ds.length
  · rw [List.getElem?_range z] at h
    refine ⟨ds[i], List.getElem?_eq_getElem z, ?_⟩
    have e : ds.getD i .non = ds[i] := by rw [List.getD_eq_getElem?_getD, List.getElem?_eq_getElem z]; rfl
    have h' : d = .tup [.int (i : Nat), ds.getD i .non] := (Option.some.inj h).symm
    rw [e] at h'
    exact h'
  · rw [List.getElem?_eq_none (by rw [List.length_range]; exact Nat.le_of_not_lt z)] at h; cases h
theorem pairsD_len (ds : List D) : (pairsD ds).length = ds.length := by unfold pairsD; rw [List.length_map, List.length_range]
theorem pair_dt {F' H' : Hp} {T : Addr} {i : Nat} {y : V} {d : D} (s : Le F' H') (hT : H' T = none) (dy : c.Dt F' y d) : ∃ F2, Ext c.T F' H' F2 (upd H' T (.tup [.int (i : Nat), y])) ∧ c.Dt F2 (.ref T) (.tup [.int (i : Nat), d]) := by
  have e : Ext c.T F' H' (upd F' T (.tup [.int (i : Nat), y])) (upd H' T (.tup [.int (i : Nat), y])) := .new s hT
  exact ⟨_, e, .tup (SqT.of upd_same) (.cons (.int _) (.cons (dy.le (e.le s)) .nil))⟩
theorem di_enum {elts : List Expr} {kk : Nat} {tpos : Pos} (fx : Fit X c) (hg : Gl X "enumerate") (hm : X.mg "enumerate" = none) (ha : DA X c [a] fs) (hs : starEach [a] X.env = [(false, eval a X.env)] := by rfl) : DI X c (.Tuple elts kk tpos) (.Call (.Name "enumerate" p) [a] [] pos) (fs.bind enumD) :=
  PIw (pi_enum hg hm ha hs) fun σ H Q ⟨F, ρ, rr, h⟩ => ⟨F, ρ, rr, (PIt.bindA h).mono (.refl _) fun vs H1 ⟨F1, ρ1, ds, r1, l1, t1, h1⟩ => by
    rw [fx.k]
    have key : ∀ {a : Addr} {xs : List V} {es : List D}, (∀ F' H', Le F1 F' → Le F' H' → SqL c.K H' a xs) → c.Dts F1 xs es → PIt c σ F1 (M.ret (pairsD es) ρ1) Q → ∃ b ys, [V.ref a] = [V.ref b] ∧ SqL c.K H1 b ys ∧ Q (Ite c.K b) H1 := fun {a xs es} q t h => ⟨a, xs, rfl, q F1 H1 (.refl _) r1.sub, h _ F1 H1 r1 (.refl _)
      ⟨fun i F' H' l s hi => ⟨xs, q F' H' l s, by rw [pairsD_len] at hi; rw [t.length]; exact hi⟩, fun i d F' H' l s hi => by
        obtain ⟨x, e1, e2⟩ := pairsD_at hi
        subst e2
        obtain ⟨y, hy, dy⟩ := t.get e1
        refine ⟨⟨xs, y, q F' H' l s, hy⟩, fun z H2 ⟨T, y', ez, hT, eH, q'⟩ => ?_⟩
        have e := q' xs (q F' H' l s)
        rw [hy] at e
        cases e
        subst ez eH
        exact pair_dt s hT (dy.le l)⟩⟩
    cases t1 with
    | nil => exact False.elim h1
    | cons t tt =>
      cases tt with
      | cons _ _ => exact False.elim (by cases t <;> exact h1)
      | nil =>
        cases t with
        | lst e t => exact key (fun F' H' l s => .inl (.inl (s _ _ (l _ _ e)))) t h1
        | rol e t => exact key (fun F' H' l s => SqL.le (l.trans s) e) t h1
        | _ => exact False.elim h1⟩

/-! ### targets: which slots they store, and what -/
abbrev Tg := D → Sls → Option Sls
def tTg (c : Fc) (ix : List Nat) (g : Tg) : TG := fun v σ H Q => ∃ F ρ d ρ', R c F H σ ρ ∧ c.Dt F v d ∧ g d ρ = some ρ' ∧ ∀ σ', R c F H σ' ρ' → (∀ j, j ∉ ix → σ'[j]? = σ[j]?) → σ'.length = σ.length → Q σ' H
def DG (X : Cx) (c : Fc) (tg : Expr) (ix : List Nat) (g : Tg) : Prop := PG X tg (tTg c ix g)
theorem PGw {e : Expr} {t t' : TG} (h : PG X e t) (w : ∀ v σ H Q, t' v σ H Q → t v σ H Q) : PG X e t' := ⟨fun pins s σ H v u Q I r q => h.run pins s σ H v u Q I r (w _ _ _ _ q)⟩
def Tg.name (i : Nat) : Tg := fun d ρ => some (ρ.set i (.im d))
theorem dg_name {i : Nat} {x : Str} (hN : X.N.Nodup) (hi : X.N[i]? = some x) (hx : Loc X.env.scope x) (hf : X.fn x = true ∨ X.env.scope.names.lookup x = some .local := by first | exact .inl rfl | exact .inr rfl | assumption) : DG X c (.Name x pos) [i] (Tg.name i) :=
  PGw (pg_name hN hi hx hf) fun v σ H Q ⟨F, ρ, d, ρ', r, t, e, q⟩ => by
    cases e
    exact q _ (r.setIm t) (fun j hj => List.getElem?_set_ne (fun z => hj (by rw [z]; exact List.mem_singleton.mpr rfl))) (List.length_set ..)
abbrev Tgs := List D → Sls → Option Sls
def tTgs (c : Fc) (ix : List Nat) (g : Tgs) : TGs := fun vs σ H Q => ∃ F ρ ds ρ', R c F H σ ρ ∧ c.Dts F vs ds ∧ g ds ρ = some ρ' ∧ ∀ σ', R c F H σ' ρ' → (∀ j, j ∉ ix → σ'[j]? = σ[j]?) → σ'.length = σ.length → Q σ' H
def DGs (X : Cx) (c : Fc) (ts : List Expr) (ix : List Nat) (g : Tgs) : Prop := PGs X ts (tTgs c ix g)
theorem PGsw {e : List Expr} {t t' : TGs} (h : PGs X e t) (w : ∀ v σ H Q, t' v σ H Q → t v σ H Q) : PGs X e t' := ⟨fun pins s σ H v u Q I r q => h.run pins s σ H v u Q I r (w _ _ _ _ q)⟩
def Tgs.nil : Tgs := fun ds ρ => match ds with
  | [] => some ρ
  | _ => none
def Tgs.cons (g : Tg) (gs : Tgs) : Tgs := fun ds ρ => match ds with
  | d :: ds => (g d ρ).bind (gs ds)
  | [] => none
theorem dgs_nil : DGs X c [] [] Tgs.nil := PGsw pgs_nil fun vs σ H Q ⟨F, ρ, ds, ρ', r, t, e, q⟩ => by
  cases t with
  | nil => cases e; exact ⟨rfl, q σ r (fun _ _ => rfl) rfl⟩
  | cons _ _ => cases e
theorem dgs_cons {e : Expr} {es : List Expr} {i j : List Nat} {g : Tg} {gs : Tgs} (h1 : DG X c e i g) (h2 : DGs X c es j gs) (hs : (assignEach (e :: es) X.env).map (·.2) = assign e X.env :: (assignEach es X.env).map (·.2) := by rfl) : DGs X c (e :: es) (i ++ j) (Tgs.cons g gs) :=
  PGsw (pgs_cons h1 h2 hs) fun vs σ H Q ⟨F, ρ, ds, ρ', r, t, e, q⟩ => by
    cases t with
    | nil => cases e
    | @cons v vs d ds td tds =>
      unfold Tgs.cons at e
      dsimp only at e
      cases e1 : g d ρ with
      | none => rw [e1] at e; cases e
      | some ρ1 =>
        rw [e1] at e
        refine ⟨v, vs, rfl, F, ρ, d, ρ1, r, td, e1, fun σ1 r1 k1 l1 => ⟨F, ρ1, ds, ρ', r1, tds, e, fun σ2 r2 k2 l2 => q σ2 r2 (fun n hn => ?_) (l2.trans l1)⟩⟩
        rw [k2 n (fun z => hn (List.mem_append_right _ z)), k1 n (fun z => hn (List.mem_append_left _ z))]
def Tg.tup (n : Nat) (g : Tgs) : Tg := fun d ρ => match d with
  | .tup ds => if ds.length = n then g ds ρ else none
  | _ => none
theorem dg_tup (fx : Fit X c) {es : List Expr} {k n : Nat} {ix : List Nat} {g : Tgs} (hc : X.calm = true) (h : DGs X c es ix g) (hn : (assignEach es X.env).length = n := by rfl) (hst : (assignEach es X.env).findIdx? (·.1) = none := by rfl) : DG X c (.Tuple es k pos) ix (Tg.tup n g) :=
  PGw (pg_tup hc h hn hst) fun v σ H Q ⟨F, ρ, d, ρ', r, t, e, q⟩ => by
    rw [fx.k]
    cases t with
    | @tup a xs ds e1 t1 =>
      by_cases z : ds.length = n
      · have e : g ds ρ = some ρ' := by
          have e2 : (if ds.length = n then g ds ρ else none) = some ρ' := e
          rw [if_pos z] at e2; exact e2
        exact ⟨a, xs, rfl, SqT.le r.sub e1, by rw [t1.length]; exact z, F, ρ, ds, ρ', r, t1, e, q⟩
      · have e2 : (if ds.length = n then g ds ρ else none) = some ρ' := e
        rw [if_neg z] at e2; cases e2
    | _ => cases e

/-- targets = e -/
def M.tgt (g : Tg) (d : D) : M Out := fun ρ => match g d ρ with
  | some ρ' => .ok .nx ρ'
  | none => .no
theorem ds_asg {tg e : Expr} {f : M D} {ix : List Nat} {g : Tg} (he : DE X c e f) (hg : DG X c tg ix g) (hs : swapsWithSole [tg] e pos.line X.env = pure false := by rfl) (hw : swappedStores [tg] e X.env = pure none := by rfl)
    (h1 : (assignEach [tg] X.env).map (·.2) = [assign tg X.env] := by rfl) : DS X c (.Assign [tg] e pos) (f.bind (M.tgt g)) := PSw (ps_asg he hg hs hw h1) fun D σ H ⟨F, ρ, r, h⟩ =>
  ⟨F, ρ, r, (Sst.bind (σ := σ) h).mono (.refl _) fun v H1 ⟨F1, ρ1, d, r1, l1, t1, h1⟩ => by
    unfold M.tgt at h1
    cases e : g d ρ1 with
    | none => rw [e] at h1; exact False.elim h1
    | some ρ2 =>
      rw [e] at h1
      exact ⟨F1, ρ1, d, ρ2, r1, t1, e, fun σ' r' _ _ => h1 σ' F1 H1 r' (.refl _)⟩⟩
/-- x, y = a, b -/
def M.par (i j : Nat) (fs : M (List D)) : M Out := fs.bind fun ds ρ => match ds with
  | [d, e] => .ok .nx ((ρ.set i (.im d)).set j (.im e))
  | _ => .no
theorem ds_par {i j : Nat} {x y : Str} {px py pt : Pos} {kt k2 pt2} (hc : X.calm = true) (hN : X.N.Nodup) (hi : X.N[i]? = some x) (hj : X.N[j]? = some y) (hij : i ≠ j)
    (hx : X.env.scope.names.lookup x = some .local) (hy : X.env.scope.names.lookup y = some .local) (ha : DA X c [a, b] fs)
    (hw : swappedStores [.Tuple [.Name x px, .Name y py] kt pt] (.Tuple [a, b] k2 pt2) X.env = pure (some [x, y]))
    (hs : swapsWithSole [.Tuple [.Name x px, .Name y py] kt pt] (.Tuple [a, b] k2 pt2) pos.line X.env = pure false := by rfl) :
    DS X c (.Assign [.Tuple [.Name x px, .Name y py] kt pt] (.Tuple [a, b] k2 pt2) pos) (M.par i j fs) := PSw (ps_par hc hN hi hj hij hx hy ha hw hs) fun D σ H ⟨F, ρ, r, h⟩ =>
  ⟨F, ρ, r, (Sst.bindA (σ := σ) h).mono (.refl _) fun vs H1 ⟨F1, ρ1, ds, r1, l1, t1, h1⟩ => by
    cases t1 with
    | nil => exact False.elim h1
    | cons t tt =>
      cases tt with
      | nil => exact False.elim h1
      | cons u uu =>
        cases uu with
        | cons _ _ => exact False.elim h1
        | nil => exact ⟨_, _, rfl, h1 _ F1 H1 ((r1.setIm t).setIm u) (.refl _)⟩⟩

/-! ### for -/
def M.loop (g : Tg) (body : M Out) : List D → M Out
  | [] => M.nx
  | d :: ds => fun ρ => match g d ρ with
    | none => .no
    | some ρ1 => match body ρ1 with
      | .ok .nx ρ2 => M.loop g body ds ρ2
      | .ok .ct ρ2 => M.loop g body ds ρ2
      | .ok .bk ρ2 => .ok .nx ρ2
      | r => r
theorem PIt.toLoop {f : M (List D)} {k : List D → M Out} {E : Ends} {σ : L2.St} (h : Sst c F ((f.bind k) ρ) E) : PIt c σ F (f ρ) fun J H1 => ∃ F1 ρ1 ds, R c F1 H1 σ ρ1 ∧ Le F F1 ∧ ItD c F1 J ds ∧ Sst c F1 (k ds ρ1) E := by
  unfold M.bind at h
  cases e : f ρ with
  | ok ds ρ' => rw [e] at h; exact fun J F' H' r l i => ⟨F', ρ', ds, r, l, i, Sst.mono h l⟩
  | er k fs ρ' => rw [e] at h; exact fun C dd F' H' fv m r l e1 e2 e3 => h C dd σ F' H' fv m r l e1 e2 e3
  | no => rw [e] at h; exact h
theorem PIt.mono {r : Ret (List D)} {Q Q' : It → Hp → Prop} (h : PIt c σ F r Q) (q : ∀ v H, Q v H → Q' v H) : PIt c σ F r Q' := by
  cases r with
  | ok d ρ' => exact fun v F' H' a b e => q _ _ (h v F' H' a b e)
  | er k fs ρ' => exact h
  | no => exact h
theorem ds_for {iter tg : Expr} {body : List Stmt} {f : M (List D)} {ix : List Nat} {g : Tg} {gb : M Out} (hp : PassesOwn (model X.prog X.w) X.A X.env X.xe) (hc : X.calm = true) (hi : DI X c tg iter f) (hg : DG X c tg ix g) (hb : DSs X c body gb)
    (hs : ∀ x, foldedSetIterable iter X.env x = pure x := by intro _; rfl) : DS X c (.For tg iter body [] pos) (f.bind (M.loop g gb)) := PSw (ps_for hp hc hi hg hb hs) fun E σ H ⟨F, ρ, r, h⟩ =>
  ⟨F, ρ, r, (PIt.toLoop (σ := σ) h).mono fun J H1 ⟨F1, ρ1, ds, r1, l1, it, h1⟩ => by
    refine ⟨fun i m σ H => m = ds.length - i ∧ i ≤ ds.length ∧ ∃ F ρ, R c F H σ ρ ∧ Le F1 F ∧ Sst c F (M.loop g gb (ds.drop i) ρ) E, ⟨ds.length, by simp, Nat.zero_le _, F1, ρ1, r1, .refl _, h1⟩, ?_⟩
    rintro i m σ H ⟨rfl, hi, F2, ρ2, r2, l2, h2⟩
    by_cases z : i < ds.length
    · obtain ⟨hgo, hy⟩ := it.go i ds[i] F2 H l2 r2.sub (List.getElem?_eq_getElem z)
      refine .inr ⟨hgo, fun σ' H' => ∃ F ρ, R c F H' σ' ρ ∧ Le F1 F ∧ Sst c F (M.loop g gb (ds.drop (i + 1)) ρ) E, fun σ' H' p => ⟨ds.length - (i + 1), by omega, rfl, z, p⟩, fun x H' y => ?_⟩
      obtain ⟨F3, ex, dt⟩ := hy x H' y
      have l3 := ex.le r2.sub
      rw [List.drop_eq_getElem_cons z] at h2
      unfold M.loop at h2
      cases e1 : g ds[i] ρ2 with
      | none => rw [e1] at h2; exact False.elim h2
      | some ρ3 =>
        rw [e1] at h2
        dsimp only at h2
        refine ⟨F3, ρ2, ds[i], ρ3, r2.ext ex, dt, e1, fun σ' r' _ _ => ⟨F3, ρ3, r', ?_⟩⟩
        cases e2 : gb ρ3 with
        | ok o ρ4 =>
          rw [e2] at h2
          cases o with
          | nx => exact fun σ4 F4 H4 r4 l4 => ⟨F4, ρ4, r4, l2.trans (l3.trans l4), Sst.mono h2 (l3.trans l4)⟩
          | ct => exact fun σ4 F4 H4 r4 l4 => ⟨F4, ρ4, r4, l2.trans (l3.trans l4), Sst.mono h2 (l3.trans l4)⟩
          | bk => exact fun σ4 F4 H4 r4 l4 => h2 σ4 F4 H4 r4 (l3.trans l4)
          | rt d => exact fun σ4 v F4 H4 r4 l4 t4 => h2 σ4 v F4 H4 r4 (l3.trans l4) t4
        | er k fs ρ4 => rw [e2] at h2; exact fun C dd σ4 F4 H4 fv m r4 l4 a1 a2 a3 => h2 C dd σ4 F4 H4 fv m r4 (l3.trans l4) a1 a2 a3
        | no => rw [e2] at h2; exact False.elim h2
    · have e : i = ds.length := by omega
      subst e
      refine .inl ⟨it.stop _ F2 H l2 r2.sub (Nat.le_refl _), ?_⟩
      rw [List.drop_length] at h2
      exact h2 σ F2 H r2 (.refl _)⟩
end
end DL

set_option Elab.async false
set_option linter.all false
set_option maxRecDepth 100000
set_option maxHeartbeats 4000000
/-! DL6: list comprehensions over data. -/
namespace DL
open PySem PySem.Spec PyProof.Rows L2
section
variable {X : Cx} {c : Fc} {F H : Hp} {σ : L2.St} {ρ : Sls}
/-- the slots within a block: the block's own names and the def's own lists are not told -/
def wipeD : Sls → List Nat → Sls
  | ρ, [] => ρ
  | ρ, v :: vs => (wipeD ρ vs).set v .un
def noOw : Sl → Sl
  | .ow _ => .un
  | s => s
def inBlk (ρ : Sls) (vs : List Nat) : Sls := wipeD (ρ.map noOw) vs
/-- .. and behind it -/
def outSl : Sl → Sl → Sl
  | .bo _, .bo t => .bo t
  | .bo _, _ => .un
  | s, _ => s
def outBlk (ρ ρ' : Sls) : Sls := List.zipWith outSl ρ ρ'
theorem wipeD_len (ρ : Sls) : ∀ vs : List Nat, (wipeD ρ vs).length = ρ.length
  | [] => rfl
  | v :: vs => by unfold wipeD; rw [List.length_set, wipeD_len ρ vs]
theorem wipeD_out {ρ : Sls} {i : Nat} : ∀ {vs : List Nat}, i ∉ vs → (wipeD ρ vs)[i]? = ρ[i]?
  | [], _ => rfl
  | v :: vs, h => by
    unfold wipeD
    rw [List.getElem?_set_ne (fun z => h (by rw [z]; exact List.mem_cons_self)), wipeD_out fun z => h (List.mem_cons_of_mem _ z)]
theorem wipeD_in {ρ : Sls} {i : Nat} {s : Sl} : ∀ {vs : List Nat}, i ∈ vs → (wipeD ρ vs)[i]? = some s → s = .un
  | [], h, _ => by cases h
  | v :: vs, h, e => by
    unfold wipeD at e
    by_cases z : v = i
    · subst z
      have hl := (List.getElem?_eq_some_iff.mp e).1
      rw [List.length_set] at hl
      rw [List.getElem?_set_self hl] at e
      exact (Option.some.inj e).symm
    · rw [List.getElem?_set_ne z] at e
      rcases List.mem_cons.mp h with q | q
      · exact (z q.symm).elim
      · exact wipeD_in q e
theorem wipe_out' {σ : L2.St} {i : Nat} {vs : List Nat} (h : i ∉ vs) : (wipe σ vs)[i]? = σ[i]? := L2.wipe_out h
/-- a block's constants: all that stands at a turn is kept -/
def Fc.blk (c : Fc) (F H : Hp) : Fc := ⟨c.K, c.mg, c.T, H, F, c.B, fun _ _ _ _ => False⟩
theorem R.blk {vs : List Nat} (r : R c F H σ ρ) (h0 : 0 ∉ vs) : R (c.blk F H) F H (wipe σ vs) (inBlk ρ vs) where
  sub := r.sub
  ent := fun a o _ e _ => e
  tab := r.tab
  ft := r.ft
  dom := fun a e => e
  frz := fun a _ => rfl
  bor := fun p e => r.dom p (r.bor p e)
  len := by unfold inBlk; rw [wipe_length, wipeD_len, List.length_map]; exact r.len
  sl := fun i => by
    unfold inBlk
    by_cases z : i ∈ vs
    · cases e : (wipeD (ρ.map noOw) vs)[i]? with
      | none => exact True.intro
      | some s => rw [wipeD_in z e]; exact True.intro
    · rw [wipeD_out z, L2.wipe_out z, List.getElem?_map]
      have x := r.sl i
      revert x
      cases ρ[i]? with
      | none => exact fun _ => True.intro
      | some s =>
        cases s with
        | un => exact fun _ => True.intro
        | im d => exact fun x => x
        | ow d => exact fun _ => True.intro
        | bo d => exact fun x => x
  one := fun i d e => by
    unfold inBlk at e
    by_cases z : i ∈ vs
    · have := wipeD_in z e; cases this
    · rw [wipeD_out z, List.getElem?_map] at e
      cases hs : ρ[i]? with
      | none => rw [hs] at e; cases e
      | some s =>
        rw [hs] at e
        cases s with
        | bo t => exact r.one i t hs
        | un => cases e
        | im d => cases e
        | ow d => cases e
  own := fun i j p d d' e _ _ _ => by
    unfold inBlk at e
    by_cases z : i ∈ vs
    · have := wipeD_in z e; cases this
    · rw [wipeD_out z, List.getElem?_map] at e
      cases hs : ρ[i]? with
      | none => rw [hs] at e; cases e
      | some s =>
        rw [hs] at e
        cases s <;> cases e

theorem codeO_lst {c : Addr} {q : Str} {xs : List V} : LamX.CodeO c q ≠ .lst xs := fun z => by
  unfold LamX.CodeO at z
  cases z
/-- a list that grows beside the slots: it stands at A, nothing knows it -/
structure Side (c : Fc) (F H : Hp) (σ : L2.St) (ρ : Sls) (A : Addr) (acc : List D) : Prop where
  f : F A = none
  g : c.G A = none
  no : ∀ (i : Nat) (d : D), ρ[i]? = some (.ow d) → σ[i]? ≠ some (some (.ref A))
  at_ : ∃ xs, H A = some (.lst xs) ∧ c.Dts F xs acc
/-- behind a turn's block, the list one item longer or as it was -/
theorem R.unblk {vs : List Nat} {F4 H4 : Hp} {σ4 : L2.St} {ρ4 : Sls} {A : Addr} {acc : List D} {ws : List V} {ds : List D} (r : R c F H σ ρ) (S : Side c F H σ ρ A acc) (r4 : R (c.blk F H) F4 H4 σ4 ρ4) (hσ : ∀ j, j ∉ vs → σ4[j]? = σ[j]?) (h0 : 0 ∉ vs) (hl : σ4.length = σ.length) (t : c.Dts F4 ws ds) :
    Le F F4 ∧ (∃ xs, H4 A = some (.lst xs) ∧ c.Dts F4 xs acc) ∧ R c F4 (upd H4 A (.lst ws)) σ (outBlk ρ ρ4) ∧ Side c F4 (upd H4 A (.lst ws)) σ (outBlk ρ ρ4) A ds := by
  obtain ⟨xs, hA, tA⟩ := S.at_
  have keepF : ∀ a, H a ≠ none → F4 a = F a := fun a e => r4.frz a e
  have l : Le F F4 := fun a o e => by rw [keepF a (by rw [r.sub a o e]; exact fun z => by cases z)]; exact e
  have nB : c.B ≠ some A := fun z => r.bor A z S.g
  have fA : F4 A = none := by rw [keepF A (by rw [hA]; exact fun z => by cases z)]; exact S.f
  have hA4 : H4 A = some (.lst xs) := r4.ent A _ (noT_of r.tab hA fun ps z => by cases z) hA nB
  have hlen : ρ4.length = ρ.length := by rw [← r4.len, ← r.len]; exact hl
  have key : ∀ {i : Nat} {d : D}, (outBlk ρ ρ4)[i]? = some (.ow d) → ρ[i]? = some (.ow d) := fun {i d} e => by
    unfold outBlk at e
    rw [List.getElem?_zipWith] at e
    cases hs : ρ[i]? with
    | none => rw [hs] at e; cases e
    | some s =>
      rw [hs] at e
      cases hs4 : ρ4[i]? with
      | none => rw [hs4] at e; cases e
      | some s4 =>
        rw [hs4] at e
        cases s with
        | bo t => cases s4 <;> cases e
        | un => cases e
        | im _ => cases e
        | ow d => cases e; rfl
  refine ⟨l, ⟨xs, hA4, tA.le l⟩, ⟨fun a o e => ?_, fun a o nt e n => ?_, ?_, fun q hq => ?_, fun a e z => ?_, fun a e => ?_, r.bor, ?_, fun i => ?_, fun i d e => ?_, fun i j p d d' e1 e2 e3 e4 => ?_⟩, ⟨fA, S.g, fun i d e => S.no i d (key e), ws, upd_same, t⟩⟩
  · rw [upd_ne (fun z => by rw [z, fA] at e; cases e)]; exact r4.sub a o e
  · rw [upd_ne (fun z => by rw [z, S.g] at e; cases e)]; exact r4.ent a o nt (r.ent a o nt e n) n
  · intro q hq
    obtain ⟨ps, k1, k2, k3⟩ := r4.tab q hq
    have nA : q.1 ≠ A := fun z => by rw [z, hA4] at k1; cases k1
    refine ⟨ps, by rw [upd_ne nA]; exact k1, k2, fun pos cv hc => ?_⟩
    obtain ⟨c', e1, e2⟩ := k3 pos cv hc
    refine ⟨c', e1, ?_⟩
    rw [upd_ne (fun z => by rw [z, hA4] at e2; exact codeO_lst (Option.some.inj e2).symm)]; exact e2
  · exact r4.ft q hq
  · have na : a ≠ A := fun q => e (by rw [q]; exact S.g)
    rw [upd_ne na] at z
    exact r4.dom a (r.dom a e) z
  · rw [keepF a (r.dom a e)]; exact r.frz a e
  · unfold outBlk; rw [List.length_zipWith, hlen, Nat.min_self]; exact r.len
  · unfold outBlk
    rw [List.getElem?_zipWith]
    have x := r.sl i
    cases hs : ρ[i]? with
    | none => exact True.intro
    | some s =>
      rw [hs] at x
      cases hs4 : ρ4[i]? with
      | none => exact True.intro
      | some s4 =>
        cases s with
        | un => exact True.intro
        | im d => obtain ⟨v, e1, e2⟩ := x; exact ⟨v, e1, e2.le l⟩
        | ow d =>
          obtain ⟨p, e1, e2, e3, e4⟩ := x
          obtain ⟨o, eo⟩ := e4.there
          have np : p ≠ A := fun z => S.no i d hs (by rw [e1, z])
          have nb : c.B ≠ some p := fun z => r.bor p z e3
          refine ⟨p, e1, by rw [keepF p (by rw [eo]; exact fun z => by cases z)]; exact e2, e3, e4.le l fun u q => ?_⟩
          rw [upd_ne np]
          exact r4.ent p u (e4.noT r.tab) q nb
        | bo d =>
          cases s4 with
          | bo t4 =>
            obtain ⟨p, e1, e2, e3, e4⟩ := r4.sl i |> fun y => by rw [hs4] at y; exact y
            have i0 : i ∉ vs := by rw [r.one i d hs]; exact h0
            rw [hσ i i0] at e1
            have np : p ≠ A := fun z => nB (by rw [← z]; exact e3)
            exact ⟨p, e1, e2, e3, e4.le (.refl _) fun u q => by rw [upd_ne np]; exact q⟩
          | un => exact True.intro
          | im _ => exact True.intro
          | ow _ => exact True.intro
  · unfold outBlk at e
    rw [List.getElem?_zipWith] at e
    cases hs : ρ[i]? with
    | none => rw [hs] at e; cases e
    | some s =>
      rw [hs] at e
      cases hs4 : ρ4[i]? with
      | none => rw [hs4] at e; cases e
      | some s4 =>
        rw [hs4] at e
        cases s with
        | bo t => exact r.one i t hs
        | un => cases e
        | im _ => cases e
        | ow _ => cases e
  · exact r.own i j p d d' (key e1) (key e2) e3 e4
/-- what stands beside the slots becomes a datum -/
theorem Side.dt {A : Addr} {acc : List D} (r : R c F H σ ρ) (S : Side c F H σ ρ A acc) : ∃ F', Le F F' ∧ R c F' H σ ρ ∧ c.Dt F' (.ref A) (.lst acc) := by
  obtain ⟨xs, hA, tA⟩ := S.at_
  have l : Le F (upd F A (.lst xs)) := fun a u q => by rw [upd_ne (fun z => by rw [z, S.f] at q; cases q)]; exact q
  refine ⟨upd F A (.lst xs), l, ⟨fun a u q => ?_, r.ent, r.tab, fun q hq => ?_, r.dom, fun a q => ?_, r.bor, r.len, fun i => ?_, r.one, r.own⟩, .lst upd_same (tA.le l)⟩
  · by_cases z : a = A
    · subst z; rw [upd_same] at q; cases q; exact hA
    · rw [upd_ne z] at q; exact r.sub a u q
  · rw [upd_ne (noT_of r.tab hA (fun ps z => by cases z) q hq)]; exact r.ft q hq
  · rw [upd_ne (fun z => q (by rw [z]; exact S.g))]; exact r.frz a q
  · have x := r.sl i
    cases hs : ρ[i]? with
    | none => exact True.intro
    | some s =>
      rw [hs] at x
      cases s with
      | un => exact True.intro
      | im d => obtain ⟨v, e1, e2⟩ := x; exact ⟨v, e1, e2.le l⟩
      | ow d => obtain ⟨p, e1, e2, e3, e4⟩ := x; exact ⟨p, e1, by rw [upd_ne (fun z => S.no i d hs (by rw [e1, z]))]; exact e2, e3, e4.le l fun _ q => q⟩
      | bo d => obtain ⟨p, e1, e2, e3, e4⟩ := x; exact ⟨p, e1, by rw [upd_ne (fun z => r.bor p e3 (by rw [z]; exact S.g))]; exact e2, e3, e4.le l fun _ q => q⟩

/-- [elt for tg in .. if tt]: acc what is made so far -/
def M.compL (vs : List Nat) (g : Tg) (tt : M Bool) (fe : M D) : List D → List D → M (List D)
  | [], acc => M.ret acc
  | d :: ds, acc => fun ρ => match g d (inBlk ρ vs) with
    | none => .no
    | some ρ1 => match tt ρ1 with
      | .ok true ρ2 => match fe ρ2 with
        | .ok e ρ3 => if acc.length < 16777216 then M.compL vs g tt fe ds (acc ++ [e]) (outBlk ρ ρ3) else .no
        | _ => .no
      | .ok false ρ2 => M.compL vs g tt fe ds acc (outBlk ρ ρ2)
      | _ => .no
def M.comp (vs : List Nat) (g : Tg) (tt : M Bool) (fe : M D) (ds : List D) : M D := (M.compL vs g tt fe ds []).bind fun es => M.ret (.lst es)
theorem wipe_eq {σ σ2 : L2.St} {vs : List Nat} (h : ∀ j, j ∉ vs → σ2[j]? = (wipe σ vs)[j]?) (hl : σ2.length = (wipe σ vs).length) : wipe σ2 vs = wipe σ vs := by
  refine List.ext_getElem? fun i => ?_
  by_cases z : i ∈ vs
  · have key : ∀ τ : L2.St, ∀ us : List Nat, i ∈ us → (wipe τ us)[i]? = if i < τ.length then some none else none := fun τ us => by
      induction us with
      | nil => intro h; cases h
      | cons u us ih =>
        intro h
        unfold wipe
        by_cases q : u = i
        · subst q
          by_cases lt : u < τ.length
          · rw [List.getElem?_set_self (by rw [wipe_length]; exact lt), if_pos lt]
          · rw [List.getElem?_eq_none (by rw [List.length_set, wipe_length]; exact Nat.le_of_not_lt lt), if_neg lt]
        · rw [List.getElem?_set_ne q]
          rcases List.mem_cons.mp h with q' | q'
          · exact (q q'.symm).elim
          · exact ih q'
    rw [key σ2 vs z, key σ vs z, hl, wipe_length]
  · rw [L2.wipe_out z, h i z]

/-- the reading of a comprehension, from the iterator on -/
theorem comp_read {vs ix : List Nat} {g : Tg} {tt : M Bool} {fe : M D} {J : It} {ds : List D} {Q : VK} {F1 H1 : Hp} {ρ1 : Sls} {tg : TG} {tT : TT} {te : TE} (h0 : 0 ∉ vs) (hix : ∀ j ∈ ix, j ∈ vs)
    (htg : ∀ c' v σ H Q, c'.K = c.K → c'.mg = c.mg → c'.T = c.T → c'.W = (fun _ _ _ _ => False) → tTg c' ix g v σ H Q → tg v σ H Q) (htt : ∀ c' σ H Q, c'.K = c.K → c'.mg = c.mg → c'.T = c.T → c'.W = (fun _ _ _ _ => False) → tTe c' tt σ H Q → tT σ H Q)
    (hte : ∀ c' σ H Q, c'.K = c.K → c'.mg = c.mg → c'.T = c.T → c'.W = (fun _ _ _ _ => False) → tE c' fe σ H Q → te σ H Q)
    (r1 : R c F1 H1 σ ρ1) (it : ItD c F1 J ds) (h1 : Pst c σ F1 (M.comp vs g tt fe ds ρ1) Q) : ∀ A, H1 A = none → ∃ W : Nat → Nat → Hp → Prop, (∃ m, W 0 m (upd H1 A (.lst []))) ∧ ∀ i m H, W i m H →
      (J.stop i H ∧ Q (.ref A) H) ∨ (J.go i H ∧ ∃ Nx : Hp → Prop, (∀ H', Nx H' → ∃ m', m' < m ∧ W (i + 1) m' H') ∧ ∀ x H', J.yld i H x H' → tg x (wipe σ vs) H' fun σ2 H2 => wipe σ2 vs = wipe σ vs ∧ tT σ2 H2 fun b H3 =>
        if b = true then te σ2 H3 fun y H4 => ∃ acc, H4 A = some (.lst acc) ∧ acc.length < sizeLine ∧ Nx (upd H4 A (.lst (acc ++ [y]))) else Nx H3) := by
  intro A hA
  have h0' : Pst c σ F1 (((M.compL vs g tt fe (ds.drop 0) []).bind fun es => M.ret (.lst es)) ρ1) Q := h1
  refine ⟨fun i m H => m = ds.length - i ∧ i ≤ ds.length ∧ ∃ F ρ acc, R c F H σ ρ ∧ Le F1 F ∧ Side c F H σ ρ A acc ∧ Pst c σ F (((M.compL vs g tt fe (ds.drop i) acc).bind fun es => M.ret (.lst es)) ρ) Q, ⟨ds.length, by simp, Nat.zero_le _, F1, ρ1, [], ?_, .refl _, ?_, h0'⟩, ?_⟩
  · exact r1.ext (Ext.newO r1.sub hA)
  · exact ⟨r1.fnone hA, r1.gnone hA, r1.nu hA, [], upd_same, .nil⟩
  rintro i m H ⟨rfl, hi, F2, ρ2, acc, r2, l2, S, h2⟩
  by_cases z : i < ds.length
  · obtain ⟨hgo, hy⟩ := it.go i ds[i] F2 H l2 r2.sub (List.getElem?_eq_getElem z)
    refine .inr ⟨hgo, fun H' => ∃ F ρ acc, R c F H' σ ρ ∧ Le F1 F ∧ Side c F H' σ ρ A acc ∧ Pst c σ F (((M.compL vs g tt fe (ds.drop (i + 1)) acc).bind fun es => M.ret (.lst es)) ρ) Q, fun H' p => ⟨ds.length - (i + 1), by omega, rfl, z, p⟩, fun x H' y => ?_⟩
    obtain ⟨F3, ex, dt⟩ := hy x H' y
    have l3 := ex.le r2.sub
    have r3 := r2.ext ex
    have S3 : Side c F3 H' σ ρ2 A acc := by
      obtain ⟨xs, a1, a2⟩ := S.at_
      exact ⟨by rw [ex.old A (by rw [a1]; exact fun z => by cases z)]; exact S.f, S.g, S.no, xs, ex.h _ _ (noT_of r2.tab a1 fun ps z => by cases z) a1, a2.le l3⟩
    rw [List.drop_eq_getElem_cons z] at h2
    unfold M.bind M.compL at h2
    have rb : R (c.blk F3 H') F3 H' (wipe σ vs) (inBlk ρ2 vs) := r3.blk h0
    cases e1 : g ds[i] (inBlk ρ2 vs) with
    | none => rw [e1] at h2; exact False.elim h2
    | some ρ3 =>
      rw [e1] at h2
      dsimp only at h2
      refine htg (c.blk F3 H') _ _ _ _ rfl rfl rfl rfl ⟨F3, inBlk ρ2 vs, ds[i], ρ3, rb, dt, e1, fun σ2 r' k1 k2 => ?_⟩
      have kσ : ∀ j, j ∉ vs → σ2[j]? = (wipe σ vs)[j]? := fun j hj => k1 j fun q => hj (hix j q)
      refine ⟨wipe_eq kσ k2, htt (c.blk F3 H') _ _ _ rfl rfl rfl rfl ⟨F3, ρ3, r', ?_⟩⟩
      have kσ' : ∀ j, j ∉ vs → σ2[j]? = σ[j]? := fun j hj => by rw [kσ j hj, L2.wipe_out hj]
      have kl : σ2.length = σ.length := by rw [k2, wipe_length]
      cases e2 : tt ρ3 with
      | no => rw [e2] at h2; exact False.elim h2
      | er _ _ _ => rw [e2] at h2; exact False.elim h2
      | ok b ρ4 =>
        rw [e2] at h2
        intro F4 H4 r4 l4
        cases b with
        | false =>
          dsimp only at h2
          refine iteF ?_
          obtain ⟨xs, a1, a2⟩ := S3.at_
          have back := r3.unblk S3 r4 kσ' h0 kl (ws := xs) (ds := acc) (a2.le l4)
          obtain ⟨b1, ⟨xs', b2, b3⟩, b4, b5⟩ := back
          have nB : c.B ≠ some A := fun q => r2.bor A q S.g
          have e4 : H4 A = some (.lst xs) := r4.ent A _ (noT_of r3.tab a1 fun ps z => by cases z) a1 nB
          have e5 : upd H4 A (.lst xs) = H4 := by
            funext b
            by_cases q : b = A
            · rw [q, upd_same, e4]
            · rw [upd_ne q]
          rw [e5] at b4 b5
          exact ⟨F4, outBlk ρ2 ρ4, acc, b4, l2.trans (l3.trans l4), b5, Pst.mono h2 (l3.trans l4) fun _ _ q => q⟩
        | true =>
          dsimp only at h2
          refine iteT (hte (c.blk F3 H') _ _ _ rfl rfl rfl rfl ⟨F4, ρ4, r4, ?_⟩)
          cases e3 : fe ρ4 with
          | no => rw [e3] at h2; exact False.elim h2
          | er _ _ _ => rw [e3] at h2; exact False.elim h2
          | ok e ρ5 =>
            rw [e3] at h2
            dsimp only at h2
            intro v F5 H5 r5 l5 t5
            by_cases hz : acc.length < 16777216
            · rw [if_pos hz] at h2
              obtain ⟨xs, a1, a2⟩ := S3.at_
              obtain ⟨b1, ⟨xs', b2, b3⟩, _, _⟩ := r3.unblk S3 r5 kσ' h0 kl (ws := []) (ds := []) .nil
              obtain ⟨_, _, b4, b5⟩ := r3.unblk S3 r5 kσ' h0 kl (ws := xs' ++ [v]) (ds := acc ++ [e]) (b3.append (.cons t5 .nil))
              exact ⟨xs', b2, by rw [line_eq, b3.length]; exact hz, F5, outBlk ρ2 ρ5, acc ++ [e], b4, l2.trans (l3.trans (l4.trans l5)), b5, Pst.mono h2 (l3.trans (l4.trans l5)) fun _ _ q => q⟩
            · rw [if_neg hz] at h2; exact False.elim h2
  · have e : i = ds.length := by omega
    subst e
    refine .inl ⟨it.stop _ F2 H l2 r2.sub (Nat.le_refl _), ?_⟩
    rw [List.drop_length] at h2
    obtain ⟨F', l', r', t'⟩ := S.dt r2
    exact h2 (.ref A) F' H r' l' t'
end
end DL

set_option Elab.async false
set_option linter.all false
set_option maxRecDepth 100000
set_option maxHeartbeats 4000000
/-! DL7: the comprehension's rules; items, slices, built-ins. -/
namespace DL
open PySem PySem.Spec PyProof.Rows L2
section
variable {X : Cx} {c : Fc} {F H : Hp} {σ : L2.St} {ρ : Sls} {a b e : Expr} {fa fb fe : M D} {fs : M (List D)} {pos p : Pos}

/-! ### list comprehensions -/
/-- within a block -/
structure FitB (X : Cx) (c0 c : Fc) : Prop where
  k : X.K = c.K
  mg : X.mg = c.mg
  t : c.T = c0.T
  w : c.W = fun _ _ _ _ => False
theorem FitB.fit {X : Cx} {c0 c : Fc} (h : FitB X c0 c) (hx : X.xe = fun _ _ => False) : Fit X c := ⟨h.k, h.mg, by rw [h.w]; exact takes0, fun _ _ _ _ _ z => by rw [h.w] at z ⊢; exact z⟩
/-- the tests of a comprehension: none, or one -/
inductive DTs (X : Cx) (c : Fc) : List Expr → M Bool → Prop
  | nil : DTs X c [] (M.ret true)
  | one {e : Expr} {f : M Bool} (h : DT X c e f) : DTs X c [e] f
theorem DTs.pts {es : List Expr} {f : M Bool} (h : DTs X c es f) : PTs X es (tTe c f) := by
  cases h with
  | nil => exact ⟨fun pins s σ H Q I ⟨F, ρ, r, h⟩ => pts_nil.run pins s σ H Q I (h F H r (.refl _))⟩
  | one h => exact pts_one h
def xTg (c : Fc) (ix : List Nat) (g : Tg) : TG := fun v σ H Q => ∃ c' : Fc, c'.K = c.K ∧ c'.mg = c.mg ∧ c'.T = c.T ∧ c'.W = (fun _ _ _ _ => False) ∧ tTg c' ix g v σ H Q
def xTt (c : Fc) (tt : M Bool) : TT := fun σ H Q => ∃ c' : Fc, c'.K = c.K ∧ c'.mg = c.mg ∧ c'.T = c.T ∧ c'.W = (fun _ _ _ _ => False) ∧ tTe c' tt σ H Q
def xTe (c : Fc) (fe : M D) : TE := fun σ H Q => ∃ c' : Fc, c'.K = c.K ∧ c'.mg = c.mg ∧ c'.T = c.T ∧ c'.W = (fun _ _ _ _ => False) ∧ tE c' fe σ H Q
theorem de_comp {tg iter elt : Expr} {ifs : List Expr} {scope : Scope} {own : List (Str × Nat)} {fi : M (List D)} {ix : List Nat} {g : Tg} {tt : M Bool} (fx : Fit X c) (hc : X.calm = true) (hN : X.N.Nodup) (hi : DI X c tg iter fi) (ok : BlkOk X.N X.env.scope scope own)
    (h0 : 0 ∉ own.map (·.2)) (hix : ∀ j ∈ ix, j ∈ own.map (·.2))
    (hg : ∀ (s : Shared) (H : Hp) (C : Addr) (cl : List (Str × Addr)) (fp : List Addr) (c' : Fc), FitB (X.blk s H scope (compEnvC scope cl C X.env) fp) c c' → DG (X.blk s H scope (compEnvC scope cl C X.env) fp) c' tg ix g)
    (ht : ∀ (s : Shared) (H : Hp) (C : Addr) (cl : List (Str × Addr)) (fp : List Addr) (c' : Fc), FitB (X.blk s H scope (compEnvC scope cl C X.env) fp) c c' → DTs (X.blk s H scope (compEnvC scope cl C X.env) fp) c' ifs tt)
    (he : ∀ (s : Shared) (H : Hp) (C : Addr) (cl : List (Str × Addr)) (fp : List Addr) (c' : Fc), FitB (X.blk s H scope (compEnvC scope cl C X.env) fp) c c' → DE (X.blk s H scope (compEnvC scope cl C X.env) fp) c' elt fe) (hs : ∀ x, foldedSetIterable iter X.env x = pure x := by intro _; rfl) :
    DE X c (.ListComp elt [⟨tg, iter, ifs, 0⟩] scope pos) (fi.bind (M.comp (own.map (·.2)) g tt fe)) := by
  have fb : ∀ (s : Shared) (H : Hp) (C : Addr) (cl : List (Str × Addr)) (fp : List Addr) (c' : Fc), c'.K = c.K → c'.mg = c.mg → c'.T = c.T → c'.W = (fun _ _ _ _ => False) → FitB (X.blk s H scope (compEnvC scope cl C X.env) fp) c c' := fun s H C cl fp c' h1 h2 h4 h3 => ⟨fx.k.trans h1.symm, fx.mg.trans h2.symm, h4, h3⟩
  refine PEw (pe_lc (g := xTg c ix g) (tt := xTt c tt) (te := xTe c fe) hc hN hi ok
    (fun s H C cl fp => ⟨fun pins s' σ H v u Q I r ⟨c', h1, h2, h4, h3, q⟩ => (hg s _ C cl fp c' (fb _ _ _ _ _ _ h1 h2 h4 h3)).run pins s' σ H v u Q I r q⟩)
    (fun s H C cl fp => ⟨fun pins s' σ H Q I ⟨c', h1, h2, h4, h3, q⟩ => (ht s _ C cl fp c' (fb _ _ _ _ _ _ h1 h2 h4 h3)).pts.run pins s' σ H Q I q⟩)
    (fun s H C cl fp => ⟨fun pins s' σ H Q I ⟨c', h1, h2, h4, h3, q⟩ => (he s _ C cl fp c' (fb _ _ _ _ _ _ h1 h2 h4 h3)).run pins s' σ H Q I q⟩) hs) fun σ H Q ⟨F, ρ, rr, h⟩ => ?_
  have h' : PIt c σ F (fi ρ) fun J H1 => ∃ F1 ρ1 ds, R c F1 H1 σ ρ1 ∧ Le F F1 ∧ ItD c F1 J ds ∧ Pst c σ F1 (M.comp (own.map (·.2)) g tt fe ds ρ1) Q := by
    unfold M.bind at h
    cases e : fi ρ with
    | ok ds ρ' => rw [e] at h; exact fun J F' H' r l i => ⟨F', ρ', ds, r, l, i, Pst.mono h l fun _ _ q => q⟩
    | er k fs ρ' => rw [e] at h; exact h
    | no => rw [e] at h; exact h
  exact ⟨F, ρ, rr, h'.mono fun J H1 ⟨F1, ρ1, ds, r1, l1, it, h1⟩ => comp_read (tg := xTg c ix g) (tT := xTt c tt) (te := xTe c fe) h0 hix (fun c' v σ H Q a b k d q => ⟨c', a, b, k, d, q⟩) (fun c' σ H Q a b k d q => ⟨c', a, b, k, d, q⟩) (fun c' σ H Q a b k d q => ⟨c', a, b, k, d, q⟩) r1 it h1⟩
/-- name = [..] on one line -/
theorem ds_comp {i : Nat} {y : Str} {py spos : Pos} {tg iter elt : Expr} {ifs : List Expr} {scope : Scope} {own : List (Str × Nat)} {fi : M (List D)} {ix : List Nat} {g : Tg} {tt : M Bool} (fx : Fit X c) (hc : X.calm = true) (hN : X.N.Nodup)
    (hy : X.N[i]? = some y) (hyl : X.env.scope.names.lookup y = some .local) (hsw : swapsWith (.ListComp elt [⟨tg, iter, ifs, 0⟩] scope pos) (some (.Name y py)) spos.line X.env = pure true) (hi : DI X c tg iter fi) (ok : BlkOk X.N X.env.scope scope own)
    (h0 : 0 ∉ own.map (·.2)) (hix : ∀ j ∈ ix, j ∈ own.map (·.2))
    (hg : ∀ (s : Shared) (H : Hp) (C : Addr) (cl : List (Str × Addr)) (fp : List Addr) (c' : Fc), FitB (X.blk s H scope (compEnvC scope cl C X.env) fp) c c' → DG (X.blk s H scope (compEnvC scope cl C X.env) fp) c' tg ix g)
    (ht : ∀ (s : Shared) (H : Hp) (C : Addr) (cl : List (Str × Addr)) (fp : List Addr) (c' : Fc), FitB (X.blk s H scope (compEnvC scope cl C X.env) fp) c c' → DTs (X.blk s H scope (compEnvC scope cl C X.env) fp) c' ifs tt)
    (he : ∀ (s : Shared) (H : Hp) (C : Addr) (cl : List (Str × Addr)) (fp : List Addr) (c' : Fc), FitB (X.blk s H scope (compEnvC scope cl C X.env) fp) c c' → DE (X.blk s H scope (compEnvC scope cl C X.env) fp) c' elt fe) (hs : ∀ x, foldedSetIterable iter X.env x = pure x := by intro _; rfl) :
    DS X c (.Assign [.Name y py] (.ListComp elt [⟨tg, iter, ifs, 0⟩] scope pos) spos) ((fi.bind (M.comp (own.map (·.2)) g tt fe)).bind fun d ρ => .ok .nx (ρ.set i (.im d))) := by
  have fb : ∀ (s : Shared) (H : Hp) (C : Addr) (cl : List (Str × Addr)) (fp : List Addr) (c' : Fc), c'.K = c.K → c'.mg = c.mg → c'.T = c.T → c'.W = (fun _ _ _ _ => False) → FitB (X.blk s H scope (compEnvC scope cl C X.env) fp) c c' := fun s H C cl fp c' h1 h2 h4 h3 => ⟨fx.k.trans h1.symm, fx.mg.trans h2.symm, h4, h3⟩
  refine PSw (ps_setLc (g := xTg c ix g) (tt := xTt c tt) (te := xTe c fe) hc hN hy hyl hsw hi ok
    (fun s H C cl fp => ⟨fun pins s' σ H v u Q I r ⟨c', h1, h2, h4, h3, q⟩ => (hg s _ C cl fp c' (fb _ _ _ _ _ _ h1 h2 h4 h3)).run pins s' σ H v u Q I r q⟩)
    (fun s H C cl fp => ⟨fun pins s' σ H Q I ⟨c', h1, h2, h4, h3, q⟩ => (ht s _ C cl fp c' (fb _ _ _ _ _ _ h1 h2 h4 h3)).pts.run pins s' σ H Q I q⟩)
    (fun s H C cl fp => ⟨fun pins s' σ H Q I ⟨c', h1, h2, h4, h3, q⟩ => (he s _ C cl fp c' (fb _ _ _ _ _ _ h1 h2 h4 h3)).run pins s' σ H Q I q⟩) hs) fun E σ H ⟨F, ρ, rr, h⟩ => ?_
  have h1 := Sst.bind (σ := σ) h
  have h' : PIt c σ F (fi ρ) fun J H1 => ∃ F1 ρ1 ds, R c F1 H1 σ ρ1 ∧ Le F F1 ∧ ItD c F1 J ds ∧ Pst c σ F1 (M.comp (own.map (·.2)) g tt fe ds ρ1) fun v H1 => ∃ F1 ρ1 d, R c F1 H1 σ ρ1 ∧ Le F F1 ∧ c.Dt F1 v d ∧ Sst c F1 (.ok .nx (ρ1.set i (.im d))) E := by
    unfold M.bind at h1
    cases e : fi ρ with
    | ok ds ρ' => rw [e] at h1; exact fun J F' H' r l it => ⟨F', ρ', ds, r, l, it, Pst.mono h1 l fun _ _ q => q⟩
    | er k fs ρ' => rw [e] at h1; exact h1
    | no => rw [e] at h1; exact h1
  refine ⟨F, ρ, rr, h'.mono fun J H1 ⟨F1, ρ1, ds, r1, l1, it, h1⟩ => comp_read (tg := xTg c ix g) (tT := xTt c tt) (te := xTe c fe) h0 hix (fun c' v σ H Q a b k d q => ⟨c', a, b, k, d, q⟩) (fun c' σ H Q a b k d q => ⟨c', a, b, k, d, q⟩) (fun c' σ H Q a b k d q => ⟨c', a, b, k, d, q⟩) r1 it (Pst.mono (Q' := fun x H1 => gName i x σ H1 E.nx) h1 (.refl _) ?_)⟩
  exact fun v H1 ⟨F1, ρ1, d, r1, l1, t1, h2⟩ => h2 _ F1 H1 (r1.setIm t1) (.refl _)

/-! ### items -/
def lineS (z : Str) : Bool := decide (z.length ≤ 16777216)
theorem lineS_of {z : Str} (h : lineS z = true) : z.length ≤ sizeLine := by rw [line_eq]; exact of_decide_eq_true h
def gIx : D → D → M D
  | .lst ds, .int i => M.of (atI ds i)
  | .rol ds, .int i => M.of (atI ds i)
  | .tup ds, .int i => M.of (atI ds i)
  | .str z, .int i => M.grd (lineS z) (M.of ((atI z.cps.toList i).map fun n => .str ⟨#[n]⟩))
  | _, _ => M.no
theorem Dts.atI {K : PySem.W.Frag} {mg : Str → Option Value} {vs : List V} {ds : List D} {i : Int} {d : D} (t : Dts K mg F vs ds) (h : L2.atI ds i = some d) : ∃ v, L2.atI vs i = some v ∧ Dt K mg F v d := by
  unfold L2.atI at h ⊢
  rw [t.length]
  cases e : ixN ds.length i with
  | none => rw [e] at h; cases h
  | some j => rw [e] at h; exact t.get h
theorem Pst.of {o : Option D} {Q : VK} (h : Pst c σ F (M.of o ρ) Q) : ∃ d, o = some d ∧ Pst c σ F (M.ret d ρ) Q := by
  cases o with
  | none => exact False.elim h
  | some d => exact ⟨d, rfl, h⟩
theorem opd_ix (fx : Fit X c) : OpD c (rIx X.K) gIx := by
  intro F H σ ρ x y d e Q r tx ty h
  rw [fx.k]
  cases ty with
  | int i =>
    cases tx with
    | @lst a xs ds e1 t1 =>
      obtain ⟨w, e, h⟩ := Pst.of (o := atI ds i) h
      obtain ⟨v, ev, dv⟩ := t1.atI e
      exact .inl ⟨a, xs, i, v, rfl, rfl, r.sub.sqL e1, ev, h.ret r dv⟩
    | @rol a xs ds e1 t1 =>
      obtain ⟨w, e, h⟩ := Pst.of (o := atI ds i) h
      obtain ⟨v, ev, dv⟩ := t1.atI e
      exact .inl ⟨a, xs, i, v, rfl, rfl, SqL.le r.sub e1, ev, h.ret r dv⟩
    | @tup a xs ds e1 t1 =>
      obtain ⟨w, e, h⟩ := Pst.of (o := atI ds i) h
      obtain ⟨v, ev, dv⟩ := t1.atI e
      exact .inr (.inl ⟨a, xs, i, v, rfl, rfl, SqT.le r.sub e1, ev, h.ret r dv⟩)
    | str z =>
      obtain ⟨q, h⟩ := Pst.grdB (p := lineS z) h
      obtain ⟨w, e, h⟩ := Pst.of (o := (atI z.cps.toList i).map fun n => D.str ⟨#[n]⟩) h
      obtain ⟨n, en, ew⟩ := Option.map_eq_some_iff.mp e
      subst ew
      exact .inr (.inr ⟨z, i, n, rfl, rfl, lineS_of q, en, h.ret r (.str _)⟩)
    | _ => exact False.elim h
  | _ => exact False.elim (by cases tx <;> exact h)
theorem two_ix {r : R2} {g : D → D → M D} {Q : VK} (hg : OpD c r g) (rr : R c F H σ ρ) (h : Pst c σ F (M.two fa fb g ρ) Q) : tOp r (tE c fa) (tE c fb) σ H Q := two_tOp hg rr h
theorem de_ix (fx : Fit X c) (ha : DE X c a fa) (hb : DE X c b fb) (hs : PlainIx b := by exact fun _ _ => rfl) : DE X c (.Subscript a b pos) (M.two fa fb gIx) := PEw (pe_ix ix_seq ha hb hs) fun σ H Q ⟨F, ρ, rr, h⟩ => two_tOp (opd_ix fx) rr h
/-- d[k], a dict with int and text keys -/
def D.key : D → Option Key
  | .int i => some (.inl i)
  | .str x => some (.inr x)
  | _ => none
def valD (kvs : List (Key × D)) (k : Key) : Option D := (kvs.find? fun kv => decide (kv.1 = k)).map (·.2)
theorem val_of {K : PySem.W.Frag} {mg : Str → Option Value} {k : Key} : ∀ {kvs : List (Key × V)} {kds : List (Key × D)}, kvs.map (·.1) = kds.map (·.1) → Dts K mg F (kvs.map (·.2)) (kds.map (·.2)) → (∀ d, valD kds k = some d → ∃ v, valV kvs k = some v ∧ Dt K mg F v d) ∧ (valD kds k = none → valV kvs k = none)
  | [], [], _, _ => ⟨fun d h => (by cases h), fun _ => rfl⟩
  | [], _ :: _, e, _ => by cases e
  | _ :: _, [], e, _ => by cases e
  | (k1, v1) :: kvs, (k2, d2) :: kds, e, t => by
    simp only [List.map_cons, List.cons.injEq] at e
    obtain ⟨e1, e2⟩ := e
    cases t with
    | cons t1 t2 =>
      obtain ⟨h1, h2⟩ := val_of (k := k) e2 t2
      subst e1
      by_cases z : k1 = k
      · refine ⟨fun d h => ⟨v1, valV_pos z, ?_⟩, fun h => ?_⟩
        · have : valD ((k1, d2) :: kds) k = some d2 := by simp [valD, List.find?_cons, z]
          rw [this] at h; cases h; exact t1
        · have : valD ((k1, d2) :: kds) k = some d2 := by simp [valD, List.find?_cons, z]
          rw [this] at h; cases h
      · have e3 : valD ((k1, d2) :: kds) k = valD kds k := by simp [valD, List.find?_cons, z]
        rw [e3]
        exact ⟨fun d h => by rw [valV_neg (p := (k1, v1)) z]; exact h1 d h, fun h => by rw [valV_neg (p := (k1, v1)) z]; exact h2 h⟩
theorem Dt.key {K : PySem.W.Frag} {mg : Str → Option Value} {v : V} {d : D} {k : Key} (t : Dt K mg F v d) (e : d.key = some k) : v = kV k := by
  cases t <;> simp only [D.key, Option.some.injEq, reduceCtorEq] at e <;> subst e <;> rfl
def gDx (d k : D) : M D := match d, k.key with
  | .dct kvs, some k => M.of (valD kvs k)
  | _, _ => M.no
theorem de_dx {n : Nat} (hr : Room n X.A) (ha : DE X c a fa) (hb : DE X c b fb) (hs : NoSl b := by exact fun _ _ => rfl) : DE X c (.Subscript a b pos) (M.two fa fb gDx) :=
  PEw (pe_dget (hu_of hr) ha hb hs) fun σ H Q ⟨F, ρ, rr, h⟩ => ⟨F, ρ, rr, (Pst.bind h).mono (.refl _) fun x H1 ⟨F1, ρ1, d, r1, l1, t1, h1⟩ => ⟨F1, ρ1, r1, (Pst.bind h1).mono (.refl _) fun y H2 ⟨F2, ρ2, e, r2, l2, t2, h2⟩ => by
    have t1 := t1.le l2
    cases ek : e.key with
    | none => unfold gDx at h2; rw [ek] at h2; exact False.elim (by cases t1 <;> exact h2)
    | some k =>
      unfold gDx at h2
      rw [ek] at h2
      cases t1 with
      | @dct a kvs kds e1 k1 tt =>
        obtain ⟨w, ew, h2⟩ := Pst.of (o := valD kds k) h2
        obtain ⟨v, ev, dv⟩ := (val_of k1 tt).1 w ew
        have ey := t2.key ek
        subst ey
        exact ⟨a, v, rfl, by rw [← ev]; exact DGet.k (r2.sub _ _ e1), h2.ret r2 dv⟩
      | _ => exact False.elim h2⟩⟩

/-! ### slices -/
def DO (X : Cx) (c : Fc) (e : Option Expr) (f : M (Option Int)) : Prop := PO X e fun σ H Q => ∃ F ρ, R c F H σ ρ ∧ match f ρ with
  | .ok o ρ' => ∀ F' H', R c F' H' σ ρ' → Le F F' → Q o H'
  | .er k fs ρ' => ∀ C dd F' H' fv, c.mg k = some (.ref C) → R c F' H' σ ρ' → Le F F' → F' dd = some (.xd fv) → fv.map (·.1) = fs.map (·.1) → c.Dts F' (fv.map (·.2)) (fs.map (·.2)) → c.W (.ref C) (some dd) σ H'
  | .no => False
theorem do_none : DO X c none (M.ret none) := ⟨fun pins s σ H Q I ⟨F, ρ, r, h⟩ => po_none.run pins s σ H Q I (h F H r (.refl _))⟩
def M.asI (f : M D) : M (Option Int) := f.bind fun d => match d with
  | .int i => M.ret (some i)
  | _ => M.no
theorem do_some (h : DE X c a fa) : DO X c (some a) fa.asI := ⟨fun pins s σ H Q I ⟨F, ρ, r, q⟩ => (po_some h).run pins s σ H Q I ⟨F, ρ, r, by
  unfold M.asI M.bind at q
  cases e : fa ρ with
  | no => rw [e] at q; exact q
  | er k fs ρ' => rw [e] at q; exact q
  | ok d ρ' =>
    rw [e] at q
    intro v F' H' r' l t
    cases t with
    | int i => exact ⟨i, rfl, q F' H' r' l⟩
    | _ => exact False.elim q⟩⟩
def cutD (ds : List D) (lo hi : Option Int) : List D := (ds.drop (HT.sIx ds.length 0 lo)).take (HT.sIx ds.length ds.length hi - HT.sIx ds.length 0 lo)
theorem Dts.cut {K : PySem.W.Frag} {mg : Str → Option Value} {vs : List V} {ds : List D} {lo hi : Option Int} (t : Dts K mg F vs ds) : Dts K mg F (cutV vs lo hi) (cutD ds lo hi) := by
  unfold cutV cutD
  rw [t.length]
  exact (t.drop _).take _
def gSl (d : D) (lo hi : Option Int) : M D := match d with
  | .lst ds => M.ret (.lst (cutD ds lo hi))
  | .rol ds => M.ret (.lst (cutD ds lo hi))
  | .tup ds => M.ret (.tup (cutD ds lo hi))
  | .str z => M.grd (lineS z) (M.ret (.str (cutS z lo hi)))
  | _ => M.no
def M.sl (fa : M D) (fl fh : M (Option Int)) : M D := fa.bind fun d => fl.bind fun l => fh.bind fun h => gSl d l h
theorem DO.run' {eo : Option Expr} {f : M (Option Int)} (h : DO X c eo f) {k : Option Int → M D} {Q : VK} (rr : R c F H σ ρ) (q : Pst c σ F ((f.bind k) ρ) Q) : ∃ F0 ρ0, R c F0 H σ ρ0 ∧ match f ρ0 with
  | .ok o ρ' => ∀ F' H', R c F' H' σ ρ' → Le F0 F' → ∃ F1 ρ1, R c F1 H' σ ρ1 ∧ Le F F1 ∧ Pst c σ F1 (k o ρ1) Q
  | .er k fs ρ' => ∀ C dd F' H' fv, c.mg k = some (.ref C) → R c F' H' σ ρ' → Le F0 F' → F' dd = some (.xd fv) → fv.map (·.1) = fs.map (·.1) → c.Dts F' (fv.map (·.2)) (fs.map (·.2)) → c.W (.ref C) (some dd) σ H'
  | .no => False := by
  refine ⟨F, ρ, rr, ?_⟩
  unfold M.bind at q
  cases e : f ρ with
  | ok o ρ' => rw [e] at q; exact fun F' H' r l => ⟨F', ρ', r, l, Pst.mono q l fun _ _ z => z⟩
  | er k fs ρ' => rw [e] at q; exact q
  | no => rw [e] at q; exact q
theorem de_sl {lo hi : Option Expr} {fl fh : M (Option Int)} {p2 : Pos} (fx : Fit X c) (ha : DE X c a fa) (hl : DO X c lo fl) (hh : DO X c hi fh) : DE X c (.Subscript a (.Slice lo hi none p2) pos) (M.sl fa fl fh) :=
  PEw (pe_slice (sl_list.or (sl_tupA.or sl_str)) ha hl hh) fun σ H Q ⟨F, ρ, rr, h⟩ => ⟨F, ρ, rr, (Pst.bind h).mono (.refl _) fun x H1 ⟨F1, ρ1, d, r1, l1, t1, h1⟩ => by
    obtain ⟨F0, ρ0, r0, q⟩ := hl.run' r1 h1
    refine ⟨F1, ρ1, r1, ?_⟩
    unfold M.bind at h1
    cases e : fl ρ1 with
    | no => rw [e] at h1; exact h1
    | er k fs ρ' => rw [e] at h1; exact h1
    | ok l ρ2 =>
      rw [e] at h1
      intro F2 H2 r2 l2
      dsimp only at h1
      refine ⟨F2, ρ2, r2, ?_⟩
      cases e2 : fh ρ2 with
      | no => rw [e2] at h1; exact h1
      | er k fs ρ' => rw [e2] at h1; exact fun C dd F' H' fv m r lx => h1 C dd F' H' fv m r (l2.trans lx)
      | ok u ρ3 =>
        rw [e2] at h1
        intro F3 H3 r3 l3
        dsimp only at h1
        have h1 : Pst c σ F3 (gSl d l u ρ3) Q := Pst.mono h1 (l2.trans l3) fun _ _ z => z
        rw [fx.k]
        have t := t1.le (l2.trans l3)
        cases t with
        | @lst a xs ds e1 tt => exact .inl ⟨a, xs, rfl, r3.sub.sqL e1, fun p hp => h1.newLst r3 tt.cut hp⟩
        | @rol a xs ds e1 tt => exact .inl ⟨a, xs, rfl, SqL.le r3.sub e1, fun p hp => h1.newLst r3 tt.cut hp⟩
        | @tup a xs ds e1 tt =>
          refine .inr (.inl ⟨a, xs, rfl, SqT.le r3.sub e1, fun z => ?_, fun _ p hp => h1.newTup r3 tt.cut hp⟩)
          have e3 : cutD ds l u = ds := by
            unfold cutD
            rw [tt.length] at z
            rw [z.1, z.2, List.drop_zero, Nat.sub_zero, List.take_length]
          have h1 : Pst c σ F3 (M.ret (.tup (cutD ds l u)) ρ3) Q := h1
          rw [e3] at h1
          exact h1.ret r3 (.tup e1 tt)
        | str z =>
          obtain ⟨q, h1⟩ := Pst.grdB (p := lineS z) h1
          exact .inr (.inr ⟨z, rfl, lineS_of q, h1.ret r3 (.str _)⟩)
        | _ => exact False.elim h1⟩
end
end DL

set_option Elab.async false
set_option linter.all false
set_option maxRecDepth 100000
set_option maxHeartbeats 4000000
/-! DL8: built-ins called, methods of built-in types, isinstance, f-strings. -/
namespace DL
open PySem PySem.Spec PyProof.Rows L2
section
variable {X : Cx} {c : Fc} {F H : Hp} {σ : L2.St} {ρ : Sls} {a b e : Expr} {fa fb fe : M D} {es : List Expr} {fs : M (List D)} {pos p : Pos}

/-! ### len, int, abs, bool, str, max, min, tuple, list, all, sorted -/
def gLen : List D → M D
  | [.lst ds] | [.rol ds] | [.tup ds] => M.ret (.int ds.length)
  | [.str z] => M.grd (lineS z) (M.ret (.int z.length))
  | _ => M.no
/-- one argument -/
theorem one_of {K : PySem.W.Frag} {mg : Str → Option Value} {xs : List V} {ds : List D} (t : Dts K mg F xs ds) : (∃ v d, xs = [v] ∧ ds = [d] ∧ Dt K mg F v d) ∨ ds = [] ∨ ∃ d e r, ds = d :: e :: r := by
  cases t with
  | nil => exact .inr (.inl rfl)
  | cons t tt =>
    cases tt with
    | nil => exact .inl ⟨_, _, rfl, rfl, t⟩
    | cons _ _ => exact .inr (.inr ⟨_, _, _, rfl⟩)
def g1 (g : D → M D) : List D → M D
  | [d] => g d
  | _ => M.no
theorem call1 {r : List V → Hp → VK → Prop} {g : D → M D} (h : ∀ (F H : Hp) (σ : L2.St) (ρ : Sls) (x : V) (d : D) (Q : VK), R c F H σ ρ → c.Dt F x d → Pst c σ F (g d ρ) Q → r [x] H Q) : CallD c r (g1 g) := by
  intro F H σ ρ xs ds Q rr t q
  rcases one_of t with ⟨v, d, rfl, rfl, t1⟩ | rfl | ⟨_, _, _, rfl⟩
  · exact h F H σ ρ v d Q rr t1 q
  · exact False.elim q
  · exact False.elim q
def lenD : D → M D
  | .lst ds | .rol ds | .tup ds => M.ret (.int ds.length)
  | .str z => M.grd (lineS z) (M.ret (.int z.length))
  | _ => M.no
theorem de_len (fx : Fit X c) (hg : Gl X "len") (hm : X.mg "len" = none) (ha : DA X c [a] fs) (he : starEach [a] X.env = (false, eval a X.env) :: starEach [] X.env := by rfl) (hpl : (backTo pos (starEach [] X.env)).any (·.1) = false := by rfl) :
    DE X c (.Call (.Name "len" p) [a] [] pos) (fs.bind (g1 lenD)) :=
  de_callB (call_len_seq.or call_len_str) (call1 fun F H σ ρ x d Q rr t q => by
    rw [fx.k]
    cases t with
    | @lst a xs ds e t => exact .inl ⟨a, xs, rfl, .inl (rr.sub.sqL e), by rw [t.length]; exact q.ret rr (.int _)⟩
    | @rol a xs ds e t => exact .inl ⟨a, xs, rfl, .inl (SqL.le rr.sub e), by rw [t.length]; exact q.ret rr (.int _)⟩
    | @tup a xs ds e t => exact .inl ⟨a, xs, rfl, .inr (SqT.le rr.sub e), by rw [t.length]; exact q.ret rr (.int _)⟩
    | str z =>
      obtain ⟨z1, q⟩ := Pst.grdB (p := lineS z) q
      exact .inr ⟨z, rfl, lineS_of z1, q.ret rr (.int _)⟩
    | _ => exact False.elim q) hg hm PySem.boot_len ha (by decide) (by decide) he hpl
def intD : D → M D
  | .int i => M.ret (.int i)
  | .bl b => M.ret (.int (if b then 1 else 0))
  | .str z => match PySem.intText? z with
    | some n => M.grd (decide (z.length ≤ 640)) (M.ret (.int n))
    | none => M.no
  | _ => M.no
theorem de_intc (hg : Gl X "int") (hm : X.mg "int" = none) (ha : DA X c [a] fs) (he : starEach [a] X.env = (false, eval a X.env) :: starEach [] X.env := by rfl) (hpl : (backTo pos (starEach [] X.env)).any (·.1) = false := by rfl) :
    DE X c (.Call (.Name "int" p) [a] [] pos) (fs.bind (g1 intD)) :=
  de_callTy (call_int1.or call_int_str) (call1 fun F H σ ρ x d Q rr t q => by
    cases t with
    | int i => exact .inl (.inl ⟨i, rfl, q.ret rr (.int _)⟩)
    | bl k => exact .inl (.inr ⟨k, rfl, q.ret rr (.int _)⟩)
    | str z =>
      have q : Pst c σ F ((match PySem.intText? z with | some n => M.grd (decide (z.length ≤ 640)) (M.ret (.int n)) | none => M.no : M D) ρ) Q := q
      cases e : PySem.intText? z with
      | none => rw [e] at q; exact False.elim q
      | some n =>
        rw [e] at q
        obtain ⟨z1, q⟩ := Pst.grd (b := z.length ≤ 640) q
        exact .inr ⟨z, n, rfl, e, z1, q.ret rr (.int _)⟩
    | _ => exact False.elim q) hg hm boot_int ha (by decide) (by decide) he hpl
def absD : D → M D
  | .int i => M.ret (.int (if i < 0 then -i else i))
  | _ => M.no
theorem de_abs (hg : Gl X "abs") (hm : X.mg "abs" = none) (ha : DA X c [a] fs) (he : starEach [a] X.env = (false, eval a X.env) :: starEach [] X.env := by rfl) (hpl : (backTo pos (starEach [] X.env)).any (·.1) = false := by rfl) :
    DE X c (.Call (.Name "abs" p) [a] [] pos) (fs.bind (g1 absD)) :=
  de_callB call_abs (call1 fun F H σ ρ x d Q rr t q => by
    cases t with
    | int i => exact ⟨i, rfl, q.ret rr (.int _)⟩
    | _ => exact False.elim q) hg hm (by decide +kernel) ha (by decide) (by decide) he hpl
def strD : D → M D
  | .int i => M.grd (decide (i.natAbs.log2 < 1920)) (M.ret (.str (toString i)))
  | _ => M.no
theorem de_strc (hg : Gl X "str") (hm : X.mg "str" = none) (ha : DA X c [a] fs) (he : starEach [a] X.env = (false, eval a X.env) :: starEach [] X.env := by rfl) (hpl : (backTo pos (starEach [] X.env)).any (·.1) = false := by rfl) :
    DE X c (.Call (.Name "str" p) [a] [] pos) (fs.bind (g1 strD)) :=
  de_callTy call_str_int (call1 fun F H σ ρ x d Q rr t q => by
    cases t with
    | int i =>
      obtain ⟨z, q⟩ := Pst.grd (b := i.natAbs.log2 < 1920) q
      exact ⟨i, rfl, z, q.ret rr (.str _)⟩
    | _ => exact False.elim q) hg hm (by decide +kernel) ha (by decide) (by decide) he hpl
/-- two arguments -/
def g2 (g : D → D → M D) : List D → M D
  | [d, e] => g d e
  | _ => M.no
theorem call2 {r : List V → Hp → VK → Prop} {g : D → D → M D} (h : ∀ (F H : Hp) (σ : L2.St) (ρ : Sls) (x y : V) (d e : D) (Q : VK), R c F H σ ρ → c.Dt F x d → c.Dt F y e → Pst c σ F (g d e ρ) Q → r [x, y] H Q) : CallD c r (g2 g) := by
  intro F H σ ρ xs ds Q rr t q
  cases t with
  | nil => exact False.elim q
  | cons t1 tt =>
    cases tt with
    | nil => exact False.elim q
    | cons t2 tt =>
      cases tt with
      | cons _ _ => exact False.elim q
      | nil => exact h F H σ ρ _ _ _ _ Q rr t1 t2 q
def maxD : D → D → M D
  | .int i, .int j => M.ret (.int (if j > i then j else i))
  | _, _ => M.no
def minD : D → D → M D
  | .int i, .int j => M.ret (.int (if j < i then j else i))
  | _, _ => M.no
theorem de_max (hc : X.calm = true) (hg : Gl X "max") (hm : X.mg "max" = none) (ha : DA X c [a, b] fs) (he : starEach [a, b] X.env = (false, eval a X.env) :: starEach [b] X.env := by rfl) (hpl : (backTo pos (starEach [b] X.env)).any (·.1) = false := by rfl) :
    DE X c (.Call (.Name "max" p) [a, b] [] pos) (fs.bind (g2 maxD)) :=
  de_callB (call_max2 hc) (call2 fun F H σ ρ x y d e Q rr t u q => by
    cases t with
    | int i =>
      cases u with
      | int j => exact ⟨i, j, rfl, q.ret rr (.int _)⟩
      | _ => exact False.elim q
    | _ => exact False.elim q) hg hm (by decide +kernel) ha (by decide) (by decide) he hpl
theorem de_min (hc : X.calm = true) (hg : Gl X "min") (hm : X.mg "min" = none) (ha : DA X c [a, b] fs) (he : starEach [a, b] X.env = (false, eval a X.env) :: starEach [b] X.env := by rfl) (hpl : (backTo pos (starEach [b] X.env)).any (·.1) = false := by rfl) :
    DE X c (.Call (.Name "min" p) [a, b] [] pos) (fs.bind (g2 minD)) :=
  de_callB (call_min2 hc) (call2 fun F H σ ρ x y d e Q rr t u q => by
    cases t with
    | int i =>
      cases u with
      | int j => exact ⟨i, j, rfl, q.ret rr (.int _)⟩
      | _ => exact False.elim q
    | _ => exact False.elim q) hg hm (by decide +kernel) ha (by decide) (by decide) he hpl
def tupleD : D → M D
  | .lst ds | .rol ds | .tup ds => M.ret (.tup ds)
  | _ => M.no
theorem de_tuplec (fx : Fit X c) (hg : Gl X "tuple") (hm : X.mg "tuple" = none) (ha : DA X c [a] fs) (he : starEach [a] X.env = (false, eval a X.env) :: starEach [] X.env := by rfl) (hpl : (backTo pos (starEach [] X.env)).any (·.1) = false := by rfl) :
    DE X c (.Call (.Name "tuple" p) [a] [] pos) (fs.bind (g1 tupleD)) :=
  de_callTy call_tuple_of (call1 fun F H σ ρ x d Q rr t q => by
    rw [fx.k]
    cases t with
    | @lst a xs ds e t => exact ⟨a, xs, rfl, .inl ⟨rr.sub.sqL e, fun l hl => q.newTup rr t hl⟩⟩
    | @rol a xs ds e t => exact ⟨a, xs, rfl, .inl ⟨SqL.le rr.sub e, fun l hl => q.newTup rr t hl⟩⟩
    | @tup a xs ds e t => exact ⟨a, xs, rfl, .inr ⟨SqT.le rr.sub e, q.ret rr (.tup e t)⟩⟩
    | _ => exact False.elim q) hg hm (by decide +kernel) ha (by decide) (by decide) he hpl
def listD : D → M D
  | .lst ds | .rol ds | .tup ds => M.ret (.lst ds)
  | _ => M.no
theorem de_listc (fx : Fit X c) (hg : Gl X "list") (hm : X.mg "list" = none) (ha : DA X c [a] fs) (he : starEach [a] X.env = (false, eval a X.env) :: starEach [] X.env := by rfl) (hpl : (backTo pos (starEach [] X.env)).any (·.1) = false := by rfl) :
    DE X c (.Call (.Name "list" p) [a] [] pos) (fs.bind (g1 listD)) :=
  de_callTy call_list_of (call1 fun F H σ ρ x d Q rr t q => by
    rw [fx.k]
    cases t with
    | @lst a xs ds e t => exact ⟨a, xs, rfl, .inl (rr.sub.sqL e), fun l hl => q.newLst rr t hl⟩
    | @rol a xs ds e t => exact ⟨a, xs, rfl, .inl (SqL.le rr.sub e), fun l hl => q.newLst rr t hl⟩
    | @tup a xs ds e t => exact ⟨a, xs, rfl, .inr (SqT.le rr.sub e), fun l hl => q.newLst rr t hl⟩
    | _ => exact False.elim q) hg hm (by decide +kernel) ha (by decide) (by decide) he hpl
/-- all(a list of bools) -/
def bools : List D → Option (List Bool)
  | [] => some []
  | .bl b :: ds => (bools ds).map (b :: ·)
  | _ => none
theorem bools_of {K : PySem.W.Frag} {mg : Str → Option Value} : ∀ {ds : List D} {xs : List V} {bs : List Bool}, Dts K mg F xs ds → bools ds = some bs → xs = bs.map V.bl
  | [], _, _, .nil, e => by cases e; rfl
  | .bl b :: ds, _, bs, .cons t tt, e => by
    obtain ⟨cs, e1, e2⟩ := Option.map_eq_some_iff.mp e
    subst e2
    cases t
    rw [bools_of tt e1]; rfl
  | .non :: _, _, _, _, e => by cases e
  | .int _ :: _, _, _, _, e => by cases e
  | .str _ :: _, _, _, _, e => by cases e
  | .lst _ :: _, _, _, _, e => by cases e
  | .rol _ :: _, _, _, _, e => by cases e
  | .tup _ :: _, _, _, _, e => by cases e
  | .dct _ :: _, _, _, _, e => by cases e
  | .ob _ _ :: _, _, _, _, e => by cases e
  | .ex _ _ :: _, _, _, _, e => by cases e
  | .ty _ :: _, _, _, _, e => by cases e
  | .cl _ :: _, _, _, _, e => by cases e
def allD : D → M D
  | .lst ds => M.of ((bools ds).map fun bs => .bl (bs.all id))
  | _ => M.no
theorem de_all (fx : Fit X c) (hc : X.calm = true) (hg : Gl X "all") (hm : X.mg "all" = none) (ha : DA X c [a] fs) (he : starEach [a] X.env = (false, eval a X.env) :: starEach [] X.env := by rfl) (hpl : (backTo pos (starEach [] X.env)).any (·.1) = false := by rfl) :
    DE X c (.Call (.Name "all" p) [a] [] pos) (fs.bind (g1 allD)) :=
  de_callB (cr_all hc) (call1 fun F H σ ρ x d Q rr t q => by
    rw [fx.k]
    cases t with
    | @lst a xs ds e t =>
      obtain ⟨w, ew, q⟩ := Pst.of (o := (bools ds).map fun bs => D.bl (bs.all id)) q
      obtain ⟨bs, e1, e2⟩ := Option.map_eq_some_iff.mp ew
      subst e2
      exact ⟨a, bs, rfl, by rw [← bools_of t e1]; exact rr.sub.sqL e, q.ret rr (.bl _)⟩
    | _ => exact False.elim q) hg hm (by decide +kernel) ha (by decide) (by decide) he hpl

/-! ### isinstance -/
/-- a datum's type: a built-in one, a class of the text -/
abbrev Ty := Sum String Str
def D.tyOf : D → Option Ty
  | .non => some (.inl "NoneType")
  | .bl _ => some (.inl "bool")
  | .int _ => some (.inl "int")
  | .str _ => some (.inl "str")
  | .lst _ | .rol _ => some (.inl "list")
  | .tup _ => some (.inl "tuple")
  | .dct _ => some (.inl "dict")
  | .ob c _ => some (.inr c)
  | .ex c _ => some (.inr c)
  | _ => none
def D.asTy : D → Option Ty
  | .ty n => some (.inl n)
  | .cl c => some (.inr c)
  | _ => none
def TyIs (mg : Str → Option Value) : Ty → Value → Prop
  | .inl n, v => v = .type n
  | .inr c, v => mg c = some v
/-- which type is under which, as far as the table tells it -/
abbrev KT := Ty → Ty → Option Bool
def KtOk (K : PySem.W.Frag) (mg : Str → Option Value) (kt : KT) : Prop := ∀ t c b, kt t c = some b → ∀ tv cv, TyIs mg t tv → TyIs mg c cv → PySem.W.kitOne K tv cv = some b
/-- what makes a class's instances answer isinstance -/
structure InsT (K : PySem.W.Frag) (C : Addr) : Prop where
  cl : Cls K C
  ha : PySem.W.findIn K (.ref C) "__class__" = some (some (.builtin "object.__class__"))
  hn : PySem.W.specialIn K (.builtin "object.__class__") "__get__" = some (some (.builtin "getset_descriptor.__get__"))
  htk : PySem.W.takesIn K (.builtin "object.__class__") = some true
  hm : PySem.W.mroIn K C (.type "object") = some true
structure ExcT (K : PySem.W.Frag) (C : Addr) : Prop where
  hcl : (PySem.W.clsIn K C).isSome = true
  hga : PySem.W.findIn K (.ref C) "__getattribute__" = some (some (.builtin "BaseException.__getattribute__"))
  hgt : PySem.W.findIn K (.ref C) "__getattr__" = some none
  hsub : PySem.W.subIn K (.ref C) (.type "BaseException") = some true
  hdC : PySem.W.hasDictIn K C = true
  ha : PySem.W.findIn K (.ref C) "__class__" = some (some (.builtin "object.__class__"))
  hn : PySem.W.specialIn K (.builtin "object.__class__") "__get__" = some (some (.builtin "getset_descriptor.__get__"))
  htk : PySem.W.takesIn K (.builtin "object.__class__") = some true
  hm : PySem.W.mroIn K C (.type "object") = some true
/-- which classes of the text are of which kind: instances, exceptions -/
structure Kinds (K : PySem.W.Frag) (mg : Str → Option Value) (ins exc : List Str) : Prop where
  ins : ∀ c ∈ ins, ∀ C, mg c = some (.ref C) → InsT K C
  exc : ∀ c ∈ exc, ∀ C, mg c = some (.ref C) → ExcT K C
/-- a value of a type, for isinstance -/
inductive TyZ (K : PySem.W.Frag) (H : Hp) : V → Value → Prop where
  | of {x : V} {t : Value} (h : TyX K H x t) : TyZ K H x t
  | ex {a C d : Addr} {fs : List (Str × V)} (h : H a = some (exv a C d)) (hd : H d = some (.xd fs)) (T : ExcT K C) : TyZ K H (.ref a) (.ref C)
  | ex0 {a C : Addr} (h : H a = some (exn a C)) (T : ExcT K C) : TyZ K H (.ref a) (.ref C)
theorem kit_z {pins : List (Addr × Obj)} {s : Shared} {x : V} {u t : Value} (I : Inv X pins σ H s) (rx : RelV x u) (ty : TyZ X.K H x t) : ∃ P : Heap → Prop, PySem.W.KitX X.K u t P ∧ P s.heap ∧ u ≠ .builtin "__main__.__loader__#opaque" := by
  cases ty with
  | of h => exact kit_of I rx h
  | @ex a C d fs h hd T =>
    cases (show u = Value.ref a from rx)
    obtain ⟨⟨oe, vs, h1, h2, h3, h4⟩, _, _⟩ := (show ObjOk X.prog X.w H s.heap a (exv a C d) from I.hok a _ h)
    obtain ⟨mA, ⟨od, es, ep, e1, _⟩, _⟩ := (show ObjOk X.prog X.w H s.heap d (.xd fs) from I.hok d _ hd)
    exact ⟨_, PySem.W.kitx_exc (ox := oe) (od := some od) T.hcl T.hga T.hgt T.hsub T.ha T.hn T.htk T.hm, ⟨h1, h2, by unfold PySem.W.notCls; rw [h4] <;> rfl, by rw [h3]; exact e1⟩, fun z => nomatch z⟩
  | @ex0 a C h T =>
    cases (show u = Value.ref a from rx)
    obtain ⟨⟨oe, vs, h1, h2, h3, h4⟩, _, _⟩ := (show ObjOk X.prog X.w H s.heap a (exn a C) from I.hok a _ h)
    exact ⟨_, PySem.W.kitx_exc (ox := oe) (od := none) T.hcl T.hga T.hgt T.hsub T.ha T.hn T.htk T.hm, ⟨h1, h2, by unfold PySem.W.notCls; rw [h4] <;> rfl, by rw [h3]; exact True.intro⟩, fun z => nomatch z⟩
def rIsZ (K : PySem.W.Frag) : List V → Hp → VK → Prop := fun xs H Q => ∃ (x y : V) (t u : Value) (k : Bool), xs = [x, y] ∧ ClsV y u ∧ TyZ K H x t ∧ PySem.W.kitOne K t u = some k ∧ Q (.bl k) H
def rIsZT (K : PySem.W.Frag) : List V → Hp → VK → Prop := fun xs H Q => ∃ (x : V) (tp : Addr) (cs : List V) (t : Value) (us : List Value) (k : Bool), xs = [x, .ref tp] ∧ SqT K H tp cs ∧ Paired ClsV cs us ∧ TyZ K H x t ∧ PySem.W.kitAny K t us = some k ∧ Q (.bl k) H
theorem call_isZ : CallR X (.builtin "isinstance") (rIsZ X.K) := by
  intro pins s σ H xs us Q I r ⟨x, y, t, u, k, e1, e2, ty, e3, q⟩
  subst e1
  obtain ⟨u1, u2, rfl, r1, r2⟩ := vals2 r
  have e4 := e2.eq r2
  subst e4
  obtain ⟨P, Z, pp, hx⟩ := kit_z I r1 ty
  exact PySem.W.kia_one Z I.kIn pp e3 hx fun tk => ⟨.bl k, H, I.tok tk, rfl, q⟩
theorem call_isZT : CallR X (.builtin "isinstance") (rIsZT X.K) := by
  intro pins s σ H xs us Q I r ⟨x, tp, cs, t, ws, k, e1, hT, e2, ty, e3, q⟩
  subst e1
  obtain ⟨u1, u2, rfl, r1, r2⟩ := vals2 r
  cases (show u2 = Value.ref tp from r2)
  obtain ⟨P, Z, pp, hx⟩ := kit_z I r1 ty
  obtain ⟨its, rv, ⟨⟨oc, od, dt, sl⟩, h1, h2, n, h3⟩, _⟩ := I.tuple hT
  have e4 := ClsV.all e2 rv
  subst e4
  dsimp only at h2 h3
  subst h2 h3
  exact PySem.W.kia_tup Z I.kIn pp h1 e3 hx fun tk => ⟨.bl k, H, I.tok tk, rfl, q⟩
def asTys : List D → Option (List Ty)
  | [] => some []
  | d :: ds => match d.asTy, asTys ds with
    | some c, some cs => some (c :: cs)
    | _, _ => none
def isiAny (kt : KT) (t : Ty) : List Ty → Option Bool
  | [] => some false
  | c :: cs => match kt t c with
    | some true => some true
    | some false => isiAny kt t cs
    | none => none
/-- isinstance of these kinds of classes -/
def okKind (ins exc : List Str) : D → Bool
  | .ob c _ => ins.contains c
  | .ex c _ => exc.contains c
  | _ => true
def isiD (ins exc : List Str) (kt : KT) (x y : D) : M D :=
  if okKind ins exc x = true then
    match x.tyOf, y with
    | some t, .tup ds => M.of (((asTys ds).bind (isiAny kt t)).map .bl)
    | some t, y => match y.asTy with
      | some cc => M.of ((kt t cc).map .bl)
      | none => M.no
    | none, _ => M.no
  else M.no
theorem Dt.tyz {K : PySem.W.Frag} {mg : Str → Option Value} {ins exc : List Str} (kk : Kinds K mg ins exc) (s : Le F H) {x : V} {d : D} {t : Ty} (h : Dt K mg F x d) (e : d.tyOf = some t) (hc : okKind ins exc d = true) :
    ∃ tv, TyZ K H x tv ∧ TyIs mg t tv := by
  cases h with
  | non => cases e; exact ⟨_, .of (.base .non), rfl⟩
  | bl b => cases e; exact ⟨_, .of (.base (.bl b)), rfl⟩
  | int i => cases e; exact ⟨_, .of (.base (.int i)), rfl⟩
  | str z => cases e; exact ⟨_, .of (.base (.str z)), rfl⟩
  | lst h t => cases e; exact ⟨_, .of (.base (.lst (s _ _ h))), rfl⟩
  | rol h t =>
    cases e
    rcases SqL.le s h with (h | ⟨o, h⟩) | ⟨o, its, n, h, hc, _⟩
    · exact ⟨_, .of (.base (.lst h)), rfl⟩
    · exact ⟨_, .of (.base (.frz h)), rfl⟩
    · exact ⟨_, .of (.kList h hc), rfl⟩
  | tup h t =>
    cases e
    rcases SqT.le s h with (h | ⟨o, h⟩) | ⟨o, its, n, h, hc, _⟩
    · exact ⟨_, .of (.base (.tup h)), rfl⟩
    · exact ⟨_, .of (.fTuple h), rfl⟩
    · exact ⟨_, .of (.kTuple h hc), rfl⟩
  | dct h k t => cases e; exact ⟨_, .of (.base (.dK (s _ _ h))), rfl⟩
  | @ob a C dx c fs ds m h k t =>
    cases e
    have T := kk.ins c (by simpa [okKind] using hc) C m
    exact ⟨_, .of (.base (.ins (s _ _ h) T.cl T.ha T.hn T.htk T.hm)), m⟩
  | @ex a C dd c fs ds m h hd k t =>
    cases e
    have T := kk.exc c (by simpa [okKind] using hc) C m
    exact ⟨_, .ex (s _ _ h) (s _ _ hd) T, m⟩
  | @ex0 a C c m h =>
    cases e
    have T := kk.exc c (by simpa [okKind] using hc) C m
    exact ⟨_, .ex0 (s _ _ h) T, m⟩
  | ty n => cases e
  | cl m => cases e
theorem Dt.asty {K : PySem.W.Frag} {mg : Str → Option Value} {y : V} {d : D} {cc : Ty} (h : Dt K mg F y d) (e : d.asTy = some cc) : ∃ u, ClsV y u ∧ TyIs mg cc u := by
  cases h with
  | ty n => cases e; exact ⟨_, .ty n, rfl⟩
  | cl m => cases e; exact ⟨_, .own _, m⟩
  | _ => cases e
theorem as_tys {K : PySem.W.Frag} {mg : Str → Option Value} : ∀ {vs : List V} {ds : List D} {cs : List Ty}, Dts K mg F vs ds → asTys ds = some cs → ∃ us, Paired ClsV vs us ∧ Paired (TyIs mg) cs us
  | _, _, _, .nil, e => by cases e; exact ⟨[], .nil, .nil⟩
  | _, d :: ds, cs, .cons h tt, e => by
    unfold asTys at e
    cases e1 : d.asTy with
    | none => rw [e1] at e; cases e
    | some cc =>
      cases e2 : asTys ds with
      | none => rw [e1, e2] at e; cases e
      | some cs' =>
        rw [e1, e2] at e
        cases e
        obtain ⟨u, k1, k2⟩ := h.asty e1
        obtain ⟨us, k3, k4⟩ := as_tys tt e2
        exact ⟨u :: us, .cons k1 k3, .cons k2 k4⟩
theorem isi_any {K : PySem.W.Frag} {mg : Str → Option Value} {kt : KT} (ok : KtOk K mg kt) {t : Ty} {tv : Value} (ht : TyIs mg t tv) : ∀ {cs : List Ty} {us : List Value} {b : Bool}, Paired (TyIs mg) cs us → isiAny kt t cs = some b → PySem.W.kitAny K tv us = some b
  | _, _, _, .nil, e => by cases e; rfl
  | c :: cs, u :: us, b, .cons h tt, e => by
    unfold isiAny at e
    unfold PySem.W.kitAny
    cases e2 : kt t c with
    | none => rw [e2] at e; cases e
    | some r =>
      rw [e2] at e
      rw [ok t c r e2 tv u ht h]
      cases r with
      | true => exact e
      | false => exact isi_any ok ht tt e
theorem isi_ok {ins exc : List Str} {kt : KT} (fx : Fit X c) (kk : Kinds c.K c.mg ins exc) (ok : KtOk c.K c.mg kt) : CallD c (fun xs H Q => rIsZ X.K xs H Q ∨ rIsZT X.K xs H Q) (g2 (isiD ins exc kt)) := call2 fun F H σ ρ x y d e Q rr t u q => by
  rw [fx.k]
  unfold isiD at q
  by_cases hc : okKind ins exc d = true
  · rw [if_pos hc] at q
    cases e1 : d.tyOf with
    | none => rw [e1] at q; exact False.elim (by cases u <;> exact q)
    | some tt =>
      rw [e1] at q
      obtain ⟨tv, tz, ti⟩ := t.tyz kk rr.sub e1 hc
      have plain : ∀ {e : D}, c.Dt F y e → Pst c σ F ((match e.asTy with | some cc => M.of ((kt tt cc).map .bl) | none => M.no : M D) ρ) Q → rIsZ c.K [x, y] H Q := fun {e} u q => by
        cases e2 : e.asTy with
        | none => rw [e2] at q; exact False.elim q
        | some cc =>
          rw [e2] at q
          obtain ⟨w, ew, q⟩ := Pst.of (o := (kt tt cc).map D.bl) q
          obtain ⟨b, e3, e4⟩ := Option.map_eq_some_iff.mp ew
          subst e4
          obtain ⟨uv, k1, k2⟩ := u.asty e2
          exact ⟨x, y, tv, uv, b, rfl, k1, tz, ok tt cc b e3 tv uv ti k2, q.ret rr (.bl _)⟩
      cases u with
      | @tup a xs ds h t2 =>
        obtain ⟨w, ew, q⟩ := Pst.of (o := ((asTys ds).bind (isiAny kt tt)).map D.bl) q
        obtain ⟨b, e3, e4⟩ := Option.map_eq_some_iff.mp ew
        subst e4
        obtain ⟨cs, e5, e6⟩ := Option.bind_eq_some_iff.mp e3
        obtain ⟨us, k1, k2⟩ := as_tys t2 e5
        exact .inr ⟨x, a, xs, tv, us, b, rfl, SqT.le rr.sub h, k1, tz, isi_any ok ti k2 e6, q.ret rr (.bl _)⟩
      | ty n => exact .inl (plain (.ty n) q)
      | cl m => exact .inl (plain (.cl m) q)
      | _ => exact False.elim q
  · rw [if_neg hc] at q; exact False.elim q
theorem de_isi {ins exc : List Str} {kt : KT} (fx : Fit X c) (kk : Kinds c.K c.mg ins exc) (ok : KtOk c.K c.mg kt) (hg : Gl X "isinstance") (hm : X.mg "isinstance" = none) (ha : DA X c [a, b] fs) (he : starEach [a, b] X.env = (false, eval a X.env) :: starEach [b] X.env := by rfl) (hpl : (backTo pos (starEach [b] X.env)).any (·.1) = false := by rfl) :
    DE X c (.Call (.Name "isinstance" p) [a, b] [] pos) (fs.bind (g2 (isiD ins exc kt))) :=
  de_callB (call_isZ.or call_isZT) (isi_ok fx kk ok) hg hm (by decide +kernel) ha (by decide) (by decide) he hpl
/-- a built-in type as a value, a class of the text as a value -/
theorem de_ty {x : Str} {n : String} (hg : Gl X x) (hm : X.mg x = none) (hv : bootBuiltins x = some (.type n)) (hn : x ≠ "__name__" := by decide) (hd : (x == ("__debug__" : Str)) = false := by decide) : DE X c (.Name x pos) (M.ret (.ty n)) :=
  PEw (pe_bltn (v := .ty n) hg hm hv rfl hn hd) fun σ H Q ⟨F, ρ, r, h⟩ => h.ret r (.ty n)
theorem de_cl (fx : Fit X c) {x : Str} {C : Addr} (hg : Gl X x) (hm : X.mg x = some (.ref C)) (hd : (x == ("__debug__" : Str)) = false := by decide) : DE X c (.Name x pos) (M.ret (.cl x)) :=
  PEw (pe_glob (v := .ref C) hg hm rfl hd) fun σ H Q ⟨F, ρ, r, h⟩ => h.ret r (.cl (by rw [← fx.mg]; exact hm))

/-! ### methods of built-in types -/
def MethD (c : Fc) (K : PySem.W.Frag) (T : String) (r : V → List V → Hp → VK → Prop) (g : D → List D → M D) (tyd : D → Bool) : Prop :=
  (∀ (F H : Hp) (x : V) (d : D), Le F H → c.Dt F x d → tyd d = true → tyV K T x H) ∧ ∀ (F H : Hp) (σ : L2.St) (ρ : Sls) (x : V) (xs : List V) (d : D) (ds : List D) (Q : VK), R c F H σ ρ → c.Dt F x d → c.Dts F xs ds → tyd d = true → Pst c σ F (g d ds ρ) Q → r x xs H Q
def M.meth (fa : M D) (fs : M (List D)) (tyd : D → Bool) (g : D → List D → M D) : M D := fa.bind fun d => M.grd (tyd d) (fs.bind fun ds => g d ds)
theorem de_meth {T id : String} {name : Str} {apos : Pos} {r : V → List V → Hp → VK → Prop} {g : D → List D → M D} {tyd : D → Bool} (pa : PlainAttrs T) (slot : Slot T name id) (hty : typeOf (.builtin id) = pure (.type "method_descriptor")) (hm : MtR X id r) (hd : MethD c X.K T r g tyd)
    (ho : DE X c a fa) (ha : DA X c (b :: es) fs) (hbase : attributeBase a name X.env (eval a X.env) = eval a X.env := by rfl)
    (hfew : ((backTo pos (starEach (b :: es) X.env)).all (fun x => !x.1) && (backToKw pos (keywordEach [] X.env)).all (fun x => x.1.isSome)
      && decide ((b :: es).length + ([] : List Keyword).length + (if ([] : List Keyword).isEmpty then 0 else 1) < 30)) = true := by rfl)
    (hline : (apos.endLine == pos.line) = true := by rfl) (hs : starEach (b :: es) X.env = (false, eval b X.env) :: starEach es X.env := by rfl) (hplain : (backTo pos (starEach es X.env)).any (·.1) = false := by rfl) :
    DE X c (.Call (.Attribute a name apos) (b :: es) [] pos) (M.meth fa fs tyd g) :=
  PEw (pe_bm pa slot hty hm ho ha hbase hfew hline hs hplain) fun σ H Q ⟨F, ρ, rr, h⟩ => ⟨F, ρ, rr, (Pst.bind h).mono (.refl _) fun x H1 ⟨F1, ρ1, d, r1, l1, t1, h1⟩ => by
    obtain ⟨z, h1⟩ := Pst.grdB (p := tyd d) h1
    exact ⟨hd.1 F1 H1 x d r1.sub t1 z, F1, ρ1, r1, (Pst.bindA h1).mono (.refl _) fun xs H2 ⟨F2, ρ2, ds, r2, l2, t2, h2⟩ => hd.2 F2 H2 σ ρ2 x xs d ds Q r2 (t1.le l2) t2 z h2⟩⟩
def isS : D → Bool
  | .str _ => true
  | _ => false
theorem isS_ty {K : PySem.W.Frag} (F H : Hp) (x : V) (d : D) (_ : Le F H) (t : c.Dt F x d) (z : isS d = true) : tyV K "str" x H := by
  cases t with
  | str s => exact rfl
  | _ => cases z
/-- sep.join(a list or tuple of texts) -/
def txts : List D → Option (List Str)
  | [] => some []
  | .str x :: ds => (txts ds).map (x :: ·)
  | _ => none
theorem txts_of {K : PySem.W.Frag} {mg : Str → Option Value} : ∀ {ds : List D} {xs : List V} {ys : List Str}, Dts K mg F xs ds → txts ds = some ys → xs = ys.map V.str
  | [], _, _, .nil, e => by cases e; rfl
  | .str x :: ds, _, ys, .cons t tt, e => by
    obtain ⟨cs, e1, e2⟩ := Option.map_eq_some_iff.mp e
    subst e2
    cases t
    rw [txts_of tt e1]; rfl
  | .non :: _, _, _, _, e => by cases e
  | .int _ :: _, _, _, _, e => by cases e
  | .bl _ :: _, _, _, _, e => by cases e
  | .lst _ :: _, _, _, _, e => by cases e
  | .rol _ :: _, _, _, _, e => by cases e
  | .tup _ :: _, _, _, _, e => by cases e
  | .dct _ :: _, _, _, _, e => by cases e
  | .ob _ _ :: _, _, _, _, e => by cases e
  | .ex _ _ :: _, _, _, _, e => by cases e
  | .ty _ :: _, _, _, _, e => by cases e
  | .cl _ :: _, _, _, _, e => by cases e
def joinS (a : Str) (ds : List D) : M D := match txts ds with
  | some ys => M.grd (decide ((ys.map (·.length)).sum + ys.length * a.length ≤ 16777216)) (M.ret (.str (Txt.join a ys)))
  | none => M.no
def joinD (a : Str) : D → M D
  | .lst ds | .tup ds | .rol ds => joinS a ds
  | _ => M.no
def gJoin : D → List D → M D
  | .str a, [d] => joinD a d
  | _, _ => M.no
theorem joinS_of {a : Str} {ds : List D} {xs : List V} {Q : VK} (t : c.Dts F xs ds) (h : Pst c σ F (joinS a ds ρ) Q) : ∃ ys, xs = ys.map V.str ∧ (ys.map (·.length)).sum + ys.length * a.length ≤ 16777216 ∧ Pst c σ F (M.ret (.str (Txt.join a ys)) ρ) Q := by
  unfold joinS at h
  cases e : txts ds with
  | none => rw [e] at h; exact False.elim h
  | some ys =>
    rw [e] at h
    obtain ⟨z, h⟩ := Pst.grd (b := (ys.map (·.length)).sum + ys.length * a.length ≤ 16777216) h
    exact ⟨ys, txts_of t e, z, h⟩
theorem de_join {apos : Pos} (fx : Fit X c) (ho : DE X c a fa) (ha : DA X c [b] fs) (hbase : attributeBase a "join" X.env (eval a X.env) = eval a X.env := by rfl)
    (hfew : ((backTo pos (starEach [b] X.env)).all (fun x => !x.1) && (backToKw pos (keywordEach [] X.env)).all (fun x => x.1.isSome)
      && decide ([b].length + ([] : List Keyword).length + (if ([] : List Keyword).isEmpty then 0 else 1) < 30)) = true := by rfl)
    (hline : (apos.endLine == pos.line) = true := by rfl) (hs : starEach [b] X.env = (false, eval b X.env) :: starEach [] X.env := by rfl) (hplain : (backTo pos (starEach [] X.env)).any (·.1) = false := by rfl) :
    DE X c (.Call (.Attribute a "join" apos) [b] [] pos) (M.meth fa fs isS gJoin) :=
  de_meth PySem.F.plainAttrs_str PySem.F.slot_str_join PySem.F.type_str_join mt_join ⟨isS_ty, fun F H σ ρ x xs d ds Q rr t ts z h => by
    rw [fx.k]
    cases t with
    | str s =>
      rcases one_of ts with ⟨v, d, rfl, rfl, t⟩ | rfl | ⟨_, _, _, rfl⟩
      · cases t with
        | @lst l vs es e te => obtain ⟨ys, e1, z1, h⟩ := joinS_of te h; subst e1; exact ⟨s, l, ys, rfl, rfl, .inl (rr.sub.sqL e), z1, h.ret rr (.str _)⟩
        | @rol l vs es e te => obtain ⟨ys, e1, z1, h⟩ := joinS_of te h; subst e1; exact ⟨s, l, ys, rfl, rfl, .inl (SqL.le rr.sub e), z1, h.ret rr (.str _)⟩
        | @tup l vs es e te => obtain ⟨ys, e1, z1, h⟩ := joinS_of te h; subst e1; exact ⟨s, l, ys, rfl, rfl, .inr (SqT.le rr.sub e), z1, h.ret rr (.str _)⟩
        | _ => exact False.elim h
      · exact False.elim h
      · exact False.elim h
    | _ => cases z⟩ ho ha hbase hfew hline hs hplain

/-! ### f-strings -/
def fmtD : D → M D
  | .str y => M.grd (lineS y) (M.ret (.str y))
  | .int i => M.grd (decide (i.natAbs.log2 < 1920)) (M.ret (.str (toString i)))
  | _ => M.no
theorem de_fmt (ha : DE X c a fa) : DE X c (.FormattedValue a (-1) none pos) (fa.bind fmtD) := PEw (pe_fmt ha) fun σ H Q ⟨F, ρ, rr, h⟩ => ⟨F, ρ, rr, (Pst.bind h).mono (.refl _) fun x H1 ⟨F1, ρ1, d, r1, l1, t1, h1⟩ => by
  cases t1 with
  | str y => obtain ⟨z, h1⟩ := Pst.grdB (p := lineS y) h1; exact .inl ⟨y, rfl, lineS_of z, h1.ret r1 (.str _)⟩
  | int i => obtain ⟨z, h1⟩ := Pst.grd (b := i.natAbs.log2 < 1920) h1; exact .inr ⟨i, rfl, z, h1.ret r1 (.str _)⟩
  | _ => exact False.elim h1⟩
inductive DJ (X : Cx) (c : Fc) : List Expr → List (M D) → Prop where
  | nil : DJ X c [] []
  | cons {e : Expr} {f : M D} {es : List Expr} {gs : List (M D)} (h : DE X c e f) (r : DJ X c es gs) : DJ X c (e :: es) (f :: gs)
theorem DJ.pj {es : List Expr} {gs : List (M D)} (h : DJ X c es gs) : PJ X es (gs.map (tE c)) := by
  induction h with
  | nil => exact .nil
  | cons h _ ih => exact .cons h ih
def M.js : List (M D) → Str → M D
  | [], acc => M.ret (.str acc)
  | f :: fs, acc => f.bind fun d => match d with
    | .str y => M.grd (lineS (acc ++ y)) (M.js fs (acc ++ y))
    | _ => M.no
theorem js_read : ∀ (gs : List (M D)) (acc : Str) (F H : Hp) (ρ : Sls) (Q : VK), R c F H σ ρ → Pst c σ F (M.js gs acc ρ) Q → tJs (gs.map (tE c)) acc σ H fun out H1 => Q (.str out) H1
  | [], acc, F, H, ρ, Q, rr, h => Pst.ret h rr (.str acc)
  | f :: gs, acc, F, H, ρ, Q, rr, h => ⟨F, ρ, rr, (Pst.bind (m := f) h).mono (.refl _) fun x H1 ⟨F1, ρ1, d, r1, l1, t1, h1⟩ => by
    cases t1 with
    | str y =>
      obtain ⟨z, h1⟩ := Pst.grdB (p := lineS (acc ++ y)) h1
      exact ⟨y, rfl, lineS_of z, js_read gs (acc ++ y) F1 H1 ρ1 Q r1 h1⟩
    | _ => exact False.elim h1⟩
theorem de_js {v1 v2 : Expr} {rest : List Expr} {gs : List (M D)} (h : DJ X c (v1 :: v2 :: rest) gs) : DE X c (.JoinedStr (v1 :: v2 :: rest) pos) (M.js gs Str.empty) :=
  PEw (pe_joined h.pj) fun σ H Q ⟨F, ρ, rr, q⟩ => js_read gs Str.empty F H ρ Q rr q
end
end DL

set_option Elab.async false
set_option linter.all false
set_option maxRecDepth 100000
set_option maxHeartbeats 4000000
/-! DL9: a def's own lists and dicts; attributes; instances made; own errors raised; calls that change an own list. -/
namespace DL
open PySem PySem.Spec PyProof.Rows L2
section
variable {X : Cx} {c : Fc} {F H : Hp} {σ : L2.St} {ρ : Sls} {a b e : Expr} {fa fb fe : M D} {es : List Expr} {fs : M (List D)} {pos p : Pos} {i : Nat} {x : Str}

/-! ### own lists and dicts: made -/
theorem R.mkOwn {o : HO} {q : Addr} {d : D} (r : R c F H σ ρ) (hq : H q = none) (ow : OwnOk c.K c.mg F (upd H q o) q d) : R c F (upd H q o) (σ.set i (some (.ref q))) (ρ.set i (.ow d)) := by
  have e : Ext c.T F H F (upd H q o) := .newO r.sub hq
  exact (r.ext e).setOw (r.fnone hq) (r.gnone hq) ow (r.nu hq)
def M.setOw (i : Nat) (f : M (List D)) (k : List D → D) : M Out := f.bind fun ds => M.grd (ds.length ≤ 16777216) fun ρ => .ok .nx (ρ.set i (.ow (k ds)))
theorem Sst.grd {b : Prop} [Decidable b] {m : M Out} {E : Ends} (h : Sst c F (M.grd (decide b) m ρ) E) : b ∧ Sst c F (m ρ) E := by
  unfold M.grd at h
  by_cases z : b
  · rw [decide_eq_true z] at h; exact ⟨z, h⟩
  · rw [decide_eq_false z] at h; exact h.elim
theorem ds_ownL {pos' p2 : Pos} (ha : DA X c es fs) (hN : X.N.Nodup) (hi : X.N[i]? = some x) (hx : Loc X.env.scope x) (hs : swapsWith (.List es p2) (some (.Name x pos')) pos.line X.env = pure false := by rfl)
    (hf : X.fn x = true ∨ X.env.scope.names.lookup x = some .local := by first | exact .inl rfl | exact .inr rfl | assumption) : DS X c (.Assign [.Name x pos'] (.List es p2) pos) (M.setOw i fs .lst) :=
  PSw (ps_set hN hi hx (pe_lst ha) hs hf) fun E σ H ⟨F, ρ, r, h⟩ => ⟨F, ρ, r, (Sst.bindA (σ := σ) h).mono (.refl _) fun vs H1 ⟨F1, ρ1, ds, r1, l1, t1, h1⟩ => by
    obtain ⟨z, h1⟩ := Sst.grd (b := ds.length ≤ 16777216) h1
    exact ⟨by rw [line_eq, t1.length]; exact z, fun q hq => h1 _ F1 _ (r1.mkOwn hq ⟨vs, upd_same, t1⟩) (.refl _)⟩⟩
theorem ds_ownD {pos' p2 : Pos} (hN : X.N.Nodup) (hi : X.N[i]? = some x) (hx : Loc X.env.scope x) (hs : swapsWith (.Dict [] [] p2) (some (.Name x pos')) pos.line X.env = pure false := by rfl)
    (hf : X.fn x = true ∨ X.env.scope.names.lookup x = some .local := by first | exact .inl rfl | exact .inr rfl | assumption) : DS X c (.Assign [.Name x pos'] (.Dict [] [] p2) pos) (fun ρ => .ok .nx (ρ.set i (.ow (.dct [])))) :=
  PSw (ps_set hN hi hx pe_dnewK hs hf) fun E σ H ⟨F, ρ, r, h⟩ => fun q hq => h _ F _ (r.mkOwn hq ⟨[], upd_same, rfl, .nil⟩) (.refl _)
/-- x, y = e, {} -/
theorem ds_parD {j : Nat} {y : Str} {px py pt : Pos} {kt k2 pt2} {p2 : Pos} (hc : X.calm = true) (hN : X.N.Nodup) (hi : X.N[i]? = some x) (hj : X.N[j]? = some y) (hij : i ≠ j)
    (hx : X.env.scope.names.lookup x = some .local) (hy : X.env.scope.names.lookup y = some .local) (ha : DE X c a fa)
    (hw : swappedStores [.Tuple [.Name x px, .Name y py] kt pt] (.Tuple [a, .Dict [] [] p2] k2 pt2) X.env = pure (some [x, y]))
    (hs : swapsWithSole [.Tuple [.Name x px, .Name y py] kt pt] (.Tuple [a, .Dict [] [] p2] k2 pt2) pos.line X.env = pure false := by rfl)
    (hst : starEach [a, .Dict [] [] p2] X.env = (false, eval a X.env) :: starEach [.Dict [] [] p2] X.env := by rfl) (hst2 : starEach [.Dict [] [] p2] X.env = (false, eval (.Dict [] [] p2) X.env) :: starEach [] X.env := by rfl) :
    DS X c (.Assign [.Tuple [.Name x px, .Name y py] kt pt] (.Tuple [a, .Dict [] [] p2] k2 pt2) pos) (fa.bind fun d ρ => .ok .nx ((ρ.set i (.im d)).set j (.ow (.dct [])))) :=
  PSw (ps_par hc hN hi hj hij hx hy (pa_cons ha (pa_cons pe_dnewK pa_nil hst2) hst) hw hs) fun E σ H ⟨F, ρ, r, h⟩ => ⟨F, ρ, r, (Sst.bind (σ := σ) h).mono (.refl _) fun v H1 ⟨F1, ρ1, d, r1, l1, t1, h1⟩ => fun q hq => by
    refine ⟨_, _, rfl, h1 _ F1 _ ?_ (.refl _)⟩
    exact (r1.setIm t1).mkOwn (i := j) hq ⟨[], upd_same, rfl, .nil⟩⟩

/-! ### own lists and dicts: read and changed -/
/-- the list that a slot's own object is -/
def ownL : Option Sl → Option (List D)
  | some (.ow (.lst ds)) => some ds
  | some (.bo (.lst ds)) => some ds
  | _ => none
def ownK : Option Sl → Option (List (Key × D))
  | some (.ow (.dct ks)) => some ks
  | some (.bo (.dct ks)) => some ks
  | _ => none
/-- the slot with another content -/
def reSl (d : D) : Option Sl → Sl
  | some (.bo _) => .bo d
  | _ => .ow d
theorem R.atL {ds : List D} (r : R c F H σ ρ) (h : ownL ρ[i]? = some ds) : ∃ q xs, σ[i]? = some (some (.ref q)) ∧ F q = none ∧ H q = some (.lst xs) ∧ c.Dts F xs ds ∧ ∃ sl, (sl = Sl.ow ∨ sl = Sl.bo) ∧ ρ[i]? = some (sl (.lst ds)) ∧ ∀ d, reSl d ρ[i]? = sl d := by
  have x := r.sl i
  cases e : ρ[i]? with
  | none => rw [e] at h; cases h
  | some s =>
    rw [e] at h x
    cases s with
    | un => cases h
    | im d => cases h
    | ow d =>
      cases d <;> cases h
      obtain ⟨q, e1, e2, e3, xs, e4, e5⟩ := x
      exact ⟨q, xs, e1, e2, e4, e5, .ow, .inl rfl, rfl, fun _ => rfl⟩
    | bo d =>
      cases d <;> cases h
      obtain ⟨q, e1, e2, e3, xs, e4, e5⟩ := x
      exact ⟨q, xs, e1, e2, e4, e5, .bo, .inr rfl, rfl, fun _ => rfl⟩
theorem R.atK {ds : List (Key × D)} (r : R c F H σ ρ) (h : ownK ρ[i]? = some ds) : ∃ q xs, σ[i]? = some (some (.ref q)) ∧ F q = none ∧ H q = some (.dK xs) ∧ xs.map (·.1) = ds.map (·.1) ∧ c.Dts F (xs.map (·.2)) (ds.map (·.2)) ∧ ∃ sl, (sl = Sl.ow ∨ sl = Sl.bo) ∧ ρ[i]? = some (sl (.dct ds)) ∧ ∀ d, reSl d ρ[i]? = sl d := by
  have x := r.sl i
  cases e : ρ[i]? with
  | none => rw [e] at h; cases h
  | some s =>
    rw [e] at h x
    cases s with
    | un => cases h
    | im d => cases h
    | ow d =>
      cases d <;> cases h
      obtain ⟨q, e1, e2, e3, xs, e4, e5, e6⟩ := x
      exact ⟨q, xs, e1, e2, e4, e5, e6, .ow, .inl rfl, rfl, fun _ => rfl⟩
    | bo d =>
      cases d <;> cases h
      obtain ⟨q, e1, e2, e3, xs, e4, e5, e6⟩ := x
      exact ⟨q, xs, e1, e2, e4, e5, e6, .bo, .inr rfl, rfl, fun _ => rfl⟩
theorem codeO_ext {c : Addr} {q : Str} {o : HO} (h : ∀ φ, o ≠ .ext φ) : o ≠ LamX.CodeO c q := fun z => by
  unfold LamX.CodeO at z
  exact h _ z
theorem tabs_upd {T : List (Addr × Str)} {q : Addr} {o o1 : HO} (hH : H q = some o1) (n : ∀ ps, o1 ≠ .tbl ps) (n2 : ∀ φ, o1 ≠ .ext φ) (t : LamX.Tabs T H) : LamX.Tabs T (upd H q o) := fun p hp => by
  obtain ⟨ps, k1, k2, k3⟩ := t p hp
  refine ⟨ps, by rw [upd_ne (fun z => by rw [z, hH] at k1; exact n ps (Option.some.inj k1))]; exact k1, k2, fun pos cv hc => ?_⟩
  obtain ⟨c', e1, e2⟩ := k3 pos cv hc
  exact ⟨c', e1, by rw [upd_ne (fun z => by rw [z, hH] at e2; exact codeO_ext n2 (Option.some.inj e2))]; exact e2⟩
theorem extB_upd {T : List (Addr × Str)} {q : Addr} {o o1 : HO} (s : Le F H) (hq : F q = none) (hH : H q = some o1) (n : ∀ ps, o1 ≠ .tbl ps := by exact fun _ z => nomatch z) (n2 : ∀ φ, o1 ≠ .ext φ := by exact fun _ z => nomatch z) : ExtB T q F H F (upd H q o) :=
  ⟨(fun a u _ n e => by rw [upd_ne n]; exact e), tabs_upd hH n n2, (fun a e => by
      by_cases z : a = q
      · rw [z, upd_same]; exact fun y => (by cases y)
      · rw [upd_ne z]; exact e), (by rw [upd_same]; exact fun z => (by cases z)), fun _ _ => rfl, (fun a u e => by rw [upd_ne (fun z => by rw [z, hq] at e; cases e)]; exact s a u e)⟩
/-- tub[k], read -/
def M.ixO (i : Nat) (fb : M D) : M D := fun ρ => match ownL ρ[i]? with
  | some _ => (fb.bind fun k ρ' => match ownL ρ'[i]?, k with
    | some ds, .int j => M.of (atI ds j) ρ'
    | _, _ => .no) ρ
  | none => .no
theorem de_ixO (fx : Fit X c) (hN : X.N[i]? = some x) (hv : Vis X.env.scope x) (hb : DE X c b fb) (hs : PlainIx b := by exact fun _ _ => rfl) (hd : (x == ("__debug__" : Str)) = false := by decide) (hcd : (x == ("__classdict__" : Str)) = false := by decide) :
    DE X c (.Subscript (.Name x p) b pos) (M.ixO i fb) := PEw (pe_ix ix_list (pe_var hN hv hd hcd) hb hs) fun σ H Q ⟨F, ρ, rr, h⟩ => by
  unfold M.ixO at h
  cases e : ownL ρ[i]? with
  | none => rw [e] at h; exact False.elim h
  | some ds0 =>
    rw [e] at h
    obtain ⟨q, _, eσ, _⟩ := rr.atL e
    refine ⟨.ref q, eσ, F, ρ, rr, (Pst.bind h).mono (.refl _) fun y H1 ⟨F1, ρ1, k, r1, l1, t1, h1⟩ => ?_⟩
    cases e1 : ownL ρ1[i]? with
    | none => rw [e1] at h1; exact False.elim h1
    | some ds =>
      rw [e1] at h1
      obtain ⟨q', xs, eσ', _, eH, tt, _⟩ := r1.atL e1
      rw [eσ] at eσ'
      cases eσ'
      cases t1 with
      | int j =>
        obtain ⟨w, ew, h1⟩ := Pst.of (o := atI ds j) h1
        obtain ⟨v, ev, dv⟩ := tt.atI ew
        rw [fx.k]
        exact ⟨q, xs, j, v, rfl, rfl, .inl (.inl eH), ev, h1.ret r1 dv⟩
      | _ => exact False.elim h1
/-- tub[k] = e -/
def M.putO (i : Nat) (fv fk : M D) : M Out := fv.bind fun v ρ => match ownL ρ[i]? with
  | some _ => (fk.bind fun k ρ' => match ownL ρ'[i]?, k with
    | some ds, .int j => match ixN ds.length j with
      | some n => .ok .nx (ρ'.set i (reSl (.lst (ds.set n v)) ρ'[i]?))
      | none => .no
    | _, _ => .no) ρ
  | none => .no
theorem ds_putO {pos' : Pos} (hN : X.N[i]? = some x) (hv : Vis X.env.scope x) (he : DE X c e fe) (hb : DE X c b fb) (hg : PG X (.Subscript (.Name x p) b pos') (L2.gSub (tVar i) (tE c fb) rSetL)) (hs : swapsWithSole [.Subscript (.Name x p) b pos'] e pos.line X.env = pure false := by rfl) (hw : swappedStores [.Subscript (.Name x p) b pos'] e X.env = pure none := by rfl)
    (h1 : (assignEach [.Subscript (.Name x p) b pos'] X.env).map (·.2) = [assign (.Subscript (.Name x p) b pos') X.env] := by rfl) (hd : (x == ("__debug__" : Str)) = false := by decide) (hcd : (x == ("__classdict__" : Str)) = false := by decide) :
    DS X c (.Assign [.Subscript (.Name x p) b pos'] e pos) (M.putO i fe fb) := PSw (ps_asg he hg hs hw h1) fun E σ H ⟨F, ρ, rr, h⟩ => ⟨F, ρ, rr, (Sst.bind (σ := σ) h).mono (.refl _) fun v H1 ⟨F1, ρ1, d, r1, l1, t1, h1⟩ => by
  cases e : ownL ρ1[i]? with
  | none => rw [e] at h1; exact False.elim h1
  | some ds0 =>
    rw [e] at h1
    obtain ⟨q, _, eσ, _⟩ := r1.atL e
    refine ⟨.ref q, eσ, F1, ρ1, r1, (Sst.bind (σ := σ) h1).mono (.refl _) fun y H2 ⟨F2, ρ2, k, r2, l2, t2, h2⟩ => ?_⟩
    cases e1 : ownL ρ2[i]? with
    | none => rw [e1] at h2; exact False.elim h2
    | some ds =>
      rw [e1] at h2
      obtain ⟨q', xs, eσ', fq, eH, tt, sl, hsl, eρ, ere⟩ := r2.atL e1
      rw [eσ] at eσ'
      cases eσ'
      cases t2 with
      | int j =>
        dsimp only at h2
        cases en : ixN ds.length j with
        | none => rw [en] at h2; exact False.elim h2
        | some n =>
          rw [en] at h2
          dsimp only at h2
          rw [ere] at h2
          refine ⟨q, xs, j, n, rfl, rfl, eH, by rw [tt.length]; exact en, h2 σ F2 _ ?_ (.refl _)⟩
          exact r2.extB hsl eρ eσ (extB_upd r2.sub fq eH) ⟨_, upd_same, tt.set (t1.le l2) n⟩
      | _ => exact False.elim h2⟩
/-- found.append(e) -/
def M.app (i : Nat) (fe : M D) : M Out := fun ρ => match ownL ρ[i]? with
  | some _ => (fe.bind fun d ρ' => match ownL ρ'[i]? with
    | some ds => if ds.length < 16777216 then .ok .nx (ρ'.set i (reSl (.lst (ds ++ [d])) ρ'[i]?)) else .no
    | none => .no) ρ
  | none => .no
theorem ds_app {apos cpos : Pos} (hN : X.N[i]? = some x) (hv : Vis X.env.scope x) (he : DE X c e fe) (hd : (x == ("__debug__" : Str)) = false := by decide) (hcd : (x == ("__classdict__" : Str)) = false := by decide)
    (hpe : ∀ {t : TA}, PA X [e] t → PE X (.Call (.Attribute (.Name x p) "append" apos) [e] [] cpos) (tBM X.K "list" rAppend (tVar i) t) := by exact fun ha => pe_bm PySem.F.plainAttrs_list PySem.F.slot_list_append PySem.F.type_list_append mt_append (pe_var (by assumption) (by assumption) (by assumption) (by assumption)) ha)
    (hst : starEach [e] X.env = (false, eval e X.env) :: starEach [] X.env := by rfl) (hs : swapsWith (.Call (.Attribute (.Name x p) "append" apos) [e] [] cpos) none pos.line X.env = pure false := by rfl) :
    DS X c (.Expr (.Call (.Attribute (.Name x p) "append" apos) [e] [] cpos) pos) (M.app i fe) := PSw (ps_expr (hpe (pa_cons he pa_nil hst)) hs) fun E σ H ⟨F, ρ, rr, h⟩ => by
  unfold M.app at h
  cases e : ownL ρ[i]? with
  | none => rw [e] at h; exact False.elim h
  | some ds0 =>
    rw [e] at h
    obtain ⟨q, xs0, eσ, _, eH0, _⟩ := rr.atL e
    refine ⟨.ref q, eσ, .inl ⟨rfl, xs0, .inl (.inl eH0)⟩, F, ρ, rr, (Sst.bind (σ := σ) h).mono (.refl _) fun y H2 ⟨F2, ρ2, k, r2, l2, t2, h2⟩ => ?_⟩
    cases e1 : ownL ρ2[i]? with
    | none => rw [e1] at h2; exact False.elim h2
    | some ds =>
      rw [e1] at h2
      dsimp only at h2
      obtain ⟨q', xs, eσ', fq, eH, tt, sl, hsl, eρ, ere⟩ := r2.atL e1
      rw [eσ] at eσ'
      cases eσ'
      by_cases z : ds.length < 16777216
      · rw [if_pos z, ere] at h2
        refine ⟨q, xs, y, rfl, rfl, eH, by rw [line_eq, tt.length]; exact z, h2 σ F2 _ ?_ (.refl _)⟩
        exact r2.extB hsl eρ eσ (extB_upd r2.sub fq eH) ⟨_, upd_same, tt.append (.cons t2 .nil)⟩
      · rw [if_neg z] at h2; exact False.elim h2
/-- found[k] = e, an own dict -/
def putD (kvs : List (Key × D)) (k : Key) (v : D) : List (Key × D) :=
  if (kvs.any fun kv => decide (kv.1 = k)) = true then kvs.map (fun kv => if kv.1 = k then (kv.1, v) else kv) else kvs ++ [(k, v)]
theorem put_of {K : PySem.W.Frag} {mg : Str → Option Value} {k : Key} {v : V} {d : D} (t : Dt K mg F v d) : ∀ {kvs : List (Key × V)} {kds : List (Key × D)}, kvs.map (·.1) = kds.map (·.1) → Dts K mg F (kvs.map (·.2)) (kds.map (·.2)) →
    (putK kvs k v).map (·.1) = (putD kds k d).map (·.1) ∧ Dts K mg F ((putK kvs k v).map (·.2)) ((putD kds k d).map (·.2)) := by
  intro kvs kds hk tt
  have ha : (kvs.any fun kv => decide (kv.1 = k)) = kds.any fun kv => decide (kv.1 = k) := by
    have q1 : (kvs.any fun kv => decide (kv.1 = k)) = (kvs.map (·.1)).any fun x => decide (x = k) := by rw [List.any_map]; rfl
    have q2 : (kds.any fun kv => decide (kv.1 = k)) = (kds.map (·.1)).any fun x => decide (x = k) := by rw [List.any_map]; rfl
    rw [q1, q2, hk]
  unfold putK putD
  rw [ha]
  by_cases z : (kds.any fun kv => decide (kv.1 = k)) = true
  · rw [if_pos z, if_pos z]
    clear ha z
    induction kvs generalizing kds with
    | nil => cases kds with
      | nil => exact ⟨rfl, .nil⟩
      | cons _ _ => cases hk
    | cons kv kvs ih =>
      cases kds with
      | nil => cases hk
      | cons kd kds =>
        obtain ⟨k1, v1⟩ := kv
        obtain ⟨k2, d2⟩ := kd
        simp only [List.map_cons, List.cons.injEq] at hk
        obtain ⟨e1, e2⟩ := hk
        cases tt with
        | cons t1 t2 =>
          obtain ⟨i1, i2⟩ := ih e2 t2
          subst e1
          by_cases q : k1 = k
          · simp only [List.map_cons, if_pos q]
            exact ⟨by rw [i1], .cons t i2⟩
          · simp only [List.map_cons, if_neg q]
            exact ⟨by rw [i1], .cons t1 i2⟩
  · rw [if_neg z, if_neg z]
    simp only [List.map_append, List.map_cons, List.map_nil]
    exact ⟨by rw [hk], tt.append (.cons t .nil)⟩
def M.putK (i : Nat) (fv fk : M D) : M Out := fv.bind fun v ρ => match ownK ρ[i]? with
  | some _ => (fk.bind fun k ρ' => match ownK ρ'[i]?, k.key with
    | some ds, some k => if ds.length < 16777216 then .ok .nx (ρ'.set i (reSl (.dct (putD ds k v)) ρ'[i]?)) else .no
    | _, _ => .no) ρ
  | none => .no
theorem ds_putK {pos' : Pos} {n : Nat} (hr : Room n X.A) (hN : X.N[i]? = some x) (hv : Vis X.env.scope x) (he : DE X c e fe) (hb : DE X c b fb) (hs : swapsWith e (some (.Subscript (.Name x p) b pos')) pos.line X.env = pure false := by rfl) (hd : (x == ("__debug__" : Str)) = false := by decide) (hcd : (x == ("__classdict__" : Str)) = false := by decide) :
    DS X c (.Assign [.Subscript (.Name x p) b pos'] e pos) (M.putK i fe fb) := PSw (ps_dput (hu_of hr) (pe_var hN hv hd hcd) hb he hs) fun E σ H ⟨F, ρ, rr, h⟩ => ⟨F, ρ, rr, (Sst.bind (σ := σ) h).mono (.refl _) fun v H1 ⟨F1, ρ1, d, r1, l1, t1, h1⟩ => by
  cases e : ownK ρ1[i]? with
  | none => rw [e] at h1; exact False.elim h1
  | some ds0 =>
    rw [e] at h1
    obtain ⟨q, _, eσ, _⟩ := r1.atK e
    refine ⟨.ref q, eσ, F1, ρ1, r1, (Sst.bind (σ := σ) h1).mono (.refl _) fun y H2 ⟨F2, ρ2, k, r2, l2, t2, h2⟩ => ?_⟩
    cases e1 : ownK ρ2[i]? with
    | none => rw [e1] at h2; exact False.elim h2
    | some ds =>
      rw [e1] at h2
      obtain ⟨q', xs, eσ', fq, eH, ek, tt, sl, hsl, eρ, ere⟩ := r2.atK e1
      rw [eσ] at eσ'
      cases eσ'
      cases ekk : k.key with
      | none => rw [ekk] at h2; exact False.elim h2
      | some kk =>
        rw [ekk] at h2
        dsimp only at h2
        have ey := t2.key ekk
        subst ey
        by_cases z : ds.length < 16777216
        · rw [if_pos z, ere] at h2
          have hl : xs.length < sizeLine := by
            have := congrArg List.length ek
            rw [List.length_map, List.length_map] at this
            rw [line_eq, this]; exact z
          refine ⟨q, _, rfl, DPut.k (k := kk) eH hl, h2 σ F2 _ ?_ (.refl _)⟩
          obtain ⟨i1, i2⟩ := put_of (k := kk) (t1.le l2) ek tt
          exact r2.extB hsl eρ eσ (extB_upd r2.sub fq eH) ⟨_, upd_same, i1, i2⟩
        · rw [if_neg z] at h2; exact False.elim h2⟩

/-! ### f(tub, ..): a def that changes the own list it is handed -/
def M.callO (i n : Nat) (f : D → List D → Res (D × D)) (fs : M (List D)) : M D := fun ρ => match ownL ρ[i]? with
  | some _ => (fs.bind fun ds ρ' => match ownL ρ'[i]? with
    | some t => if ds.length + 1 = n then match f (.lst t) ds with
        | .ok (d, t') => .ok d (ρ'.set i (reSl t' ρ'[i]?))
        | _ => .no
      else .no
    | none => .no) ρ
  | none => .no
theorem de_callO {k n : Nat} {f : Addr} {fd : FuncData} {ps : List Str} {fn : D → List D → Res (D × D)} {y : Str} {py : Pos} (fx : Fit X c) (Fn : FnOk X.prog X.w X.K X.mg X.base (L2.CX X.prog X.w) k f fd ps (spB X.K X.mg c.T n fn)) (hr : Room k X.A) (hg : Gl X x) (hm : X.mg x = some (.ref f)) (hk : PySem.W.keepIn X.K (.ref f) = true) (hb : Binds X.K fd ps [])
    (hN : X.N[i]? = some y) (hv : Vis X.env.scope y) (ha : DA X c es fs) (hdb : (x == ("__debug__" : Str)) = false := by decide) (hd : (y == ("__debug__" : Str)) = false := by decide) (hcd : (y == ("__classdict__" : Str)) = false := by decide)
    (he : starEach (.Name y py :: es) X.env = (false, eval (.Name y py) X.env) :: starEach es X.env := by rfl) (hpl : (backTo pos (starEach es X.env)).any (·.1) = false := by rfl) :
    DE X c (.Call (.Name x p) (.Name y py :: es) [] pos) (M.callO i n fn fs) :=
  PEw (pe_callS Fn hr hg hm hk hb (fun σ => passAt fx.tk σ) (pa_cons (pe_var hN hv hd hcd) ha he) hdb he hpl) fun σ H Q ⟨F, ρ, rr, h⟩ => by
  unfold M.callO at h
  cases e : ownL ρ[i]? with
  | none => rw [e] at h; exact False.elim h
  | some ds0 =>
    rw [e] at h
    obtain ⟨q, _, eσ, _⟩ := rr.atL e
    refine ⟨.ref q, eσ, F, ρ, rr, (Pst.bindA h).mono (.refl _) fun ws H1 ⟨F1, ρ1, ds, r1, l1, t1, h1⟩ => ?_⟩
    cases e1 : ownL ρ1[i]? with
    | none => rw [e1] at h1; exact False.elim h1
    | some t =>
      rw [e1] at h1
      dsimp only at h1
      obtain ⟨q', xs, eσ', fq, eH, tt, sl, hsl, eρ, ere⟩ := r1.atL e1
      rw [eσ] at eσ'
      cases eσ'
      by_cases z : ds.length + 1 = n
      · rw [if_pos z] at h1
        refine ⟨F1, q, .lst t, ws, ds, rfl, ⟨r1.tab, r1.ft, r1.sub⟩, fq, ⟨xs, eH, by rw [fx.k, fx.mg]; exact tt⟩, by rw [fx.k, fx.mg]; exact t1, z, ?_⟩
        rw [fx.k, fx.mg]
        cases e2 : fn (.lst t) ds with
        | no => rw [e2] at h1; exact False.elim h1
        | er _ _ => rw [e2] at h1; exact False.elim h1
        | ok o =>
          obtain ⟨d, t'⟩ := o
          rw [e2] at h1
          dsimp only at h1
          rw [ere] at h1
          exact fun v F' H' ex ow dv => h1 v F' H' (r1.extB hsl eρ eσ ex ow) (fun a o e => by rw [ex.old a (by rw [r1.sub a o e]; exact fun z => by cases z)]; exact e) dv
      · rw [if_neg z] at h1; exact False.elim h1
end
end DL

set_option Elab.async false
set_option linter.all false
set_option maxRecDepth 100000
set_option maxHeartbeats 4000000
/-! DLA: attributes, properties, instances made, own errors raised. -/
namespace DL
open PySem PySem.Spec PyProof.Rows L2
section
variable {X : Cx} {c : Fc} {F H : Hp} {σ : L2.St} {ρ : Sls} {a b e o : Expr} {fa fb fe : M D} {es : List Expr} {fs : M (List D)} {pos p p1 p2 : Pos} {i : Nat} {x f cn : Str} {C : Addr}

/-! ### attributes -/
theorem Dts.lookup {K : PySem.W.Frag} {mg : Str → Option Value} {F : Hp} {f : Str} {d : D} : ∀ {fs : List (Str × V)} {ds : List (Str × D)}, fs.map (·.1) = ds.map (·.1) → Dts K mg F (fs.map (·.2)) (ds.map (·.2)) → ds.lookup f = some d → ∃ v, fs.lookup f = some v ∧ Dt K mg F v d := by
  intro fs
  induction fs with
  | nil => intro ds k t e; cases ds with
    | nil => cases e
    | cons _ _ => cases k
  | cons p fs ih =>
    intro ds k t e
    cases ds with
    | nil => cases k
    | cons q ds =>
      obtain ⟨g, v⟩ := p
      obtain ⟨g', d'⟩ := q
      simp only [List.map_cons, List.cons.injEq] at k
      obtain ⟨k1, k2⟩ := k
      subst k1
      cases t with
      | cons t1 t2 =>
        rw [lookup_put]
        have e2 : (if f = g then some d' else ds.lookup f) = some d := by
          by_cases z : f = g
          · subst z
            simp [List.lookup] at e ⊢
            exact e
          · have z' : (f == g) = false := by simpa using z
            simp [List.lookup, z'] at e
            rw [if_neg z]; exact e
        by_cases z : f = g
        · rw [if_pos z] at e2 ⊢
          cases e2
          exact ⟨v, rfl, t1⟩
        · rw [if_neg z] at e2 ⊢
          exact ih k2 t2 e2
/-- e.f, an attribute of an instance of the class cn -/
def M.fld (cn : Str) (fa : M D) (f : Str) : M D := fa.bind fun d => match d with
  | .ob c fs => if c = cn then M.of (fs.lookup f) else M.no
  | _ => M.no
theorem de_fld (fx : Fit X c) (hC : X.mg cn = some (.ref C)) (cl : Cls X.K C) (na : NoAttr X.K C f) (ha : DE X c a fa) (hb : attributeBase a f X.env (eval a X.env) = eval a X.env := by rfl) : DE X c (.Attribute a f pos) (M.fld cn fa f) :=
  PEw (pe_fld ha hb) fun σ H Q ⟨F, ρ, rr, h⟩ => ⟨F, ρ, rr, (Pst.bind h).mono (.refl _) fun v H1 ⟨F1, ρ1, d, r1, l1, t1, h1⟩ => by
    cases t1 with
    | @ob a' C' dx c' fs' ds' m e k t =>
      dsimp only at h1
      by_cases z : c' = cn
      · subst z
        rw [if_pos rfl] at h1
        rw [fx.mg] at hC
        rw [hC] at m
        cases m
        obtain ⟨w, ew, h1⟩ := Pst.of (o := ds'.lookup f) h1
        obtain ⟨u, eu, du⟩ := Dts.lookup k t ew
        exact ⟨_, C, dx, fs', u, rfl, r1.sub _ _ e, cl, na, eu, h1.ret r1 du⟩
      · rw [if_neg z] at h1; exact False.elim h1
    | _ => exact False.elim h1⟩
/-- the object that a slot's own instance is -/
def ownI (cn : Str) : Option Sl → Option (List (Str × D))
  | some (.ow (.ob c fs)) => if c = cn then some fs else none
  | some (.bo (.ob c fs)) => if c = cn then some fs else none
  | _ => none
theorem R.atI {ds : List (Str × D)} (r : R c F H σ ρ) (h : ownI cn ρ[i]? = some ds) : ∃ q C dx fs, σ[i]? = some (some (.ref q)) ∧ F q = none ∧ c.mg cn = some (.ref C) ∧ H q = some (.ins C dx fs) ∧ fs.map (·.1) = ds.map (·.1) ∧ c.Dts F (fs.map (·.2)) (ds.map (·.2)) ∧ ∃ sl, (sl = Sl.ow ∨ sl = Sl.bo) ∧ ρ[i]? = some (sl (.ob cn ds)) ∧ ∀ d, reSl d ρ[i]? = sl d := by
  have x := r.sl i
  cases e : ρ[i]? with
  | none => rw [e] at h; cases h
  | some s =>
    rw [e] at h x
    cases s with
    | un => cases h
    | im d => cases h
    | ow d =>
      cases d with
      | ob c' fs' =>
        unfold ownI at h
        dsimp only at h
        by_cases z : c' = cn
        · rw [if_pos z] at h
          cases h
          subst z
          obtain ⟨q, e1, e2, e3, C, dx, fs, m, e4, e5, e6⟩ := x
          exact ⟨q, C, dx, fs, e1, e2, m, e4, e5, e6, .ow, .inl rfl, rfl, fun _ => rfl⟩
        · rw [if_neg z] at h; cases h
      | _ => cases h
    | bo d =>
      cases d with
      | ob c' fs' =>
        unfold ownI at h
        dsimp only at h
        by_cases z : c' = cn
        · rw [if_pos z] at h
          cases h
          subst z
          obtain ⟨q, e1, e2, e3, C, dx, fs, m, e4, e5, e6⟩ := x
          exact ⟨q, C, dx, fs, e1, e2, m, e4, e5, e6, .bo, .inr rfl, rfl, fun _ => rfl⟩
        · rw [if_neg z] at h; cases h
      | _ => cases h
/-- self.f, read while self may still change -/
def M.fldO (cn : Str) (i : Nat) (f : Str) : M D := fun ρ => match ownI cn ρ[i]? with
  | some ds => M.of (ds.lookup f) ρ
  | none => .no
theorem de_fldO (fx : Fit X c) (hC : X.mg cn = some (.ref C)) (cl : Cls X.K C) (na : NoAttr X.K C f) (hN : X.N[i]? = some x) (hv : Vis X.env.scope x) (hd : (x == ("__debug__" : Str)) = false := by decide) (hcd : (x == ("__classdict__" : Str)) = false := by decide)
    (hb : attributeBase (.Name x p) f X.env (eval (.Name x p) X.env) = eval (.Name x p) X.env := by rfl) : DE X c (.Attribute (.Name x p) f pos) (M.fldO cn i f) :=
  PEw (pe_fld (pe_var hN hv hd hcd) hb) fun σ H Q ⟨F, ρ, rr, h⟩ => by
    unfold M.fldO at h
    cases e : ownI cn ρ[i]? with
    | none => rw [e] at h; exact False.elim h
    | some ds =>
      rw [e] at h
      obtain ⟨w, ew, h⟩ := Pst.of (o := ds.lookup f) h
      obtain ⟨q, C', dx, fs, eσ, fq, m, eH, k, t, _⟩ := rr.atI e
      rw [fx.mg, m] at hC
      cases hC
      obtain ⟨u, eu, du⟩ := Dts.lookup k t ew
      exact ⟨.ref q, eσ, q, C, dx, fs, u, rfl, eH, cl, na, eu, h.ret rr du⟩
/-- self.f = e -/
def putFD (f : Str) (v : D) : List (Str × D) → List (Str × D)
  | [] => [(f, v)]
  | (g, x) :: r => if g = f then (g, v) :: r else (g, x) :: putFD f v r
theorem putF_of {K : PySem.W.Frag} {mg : Str → Option Value} {v : V} {d : D} (t : Dt K mg F v d) : ∀ {fs : List (Str × V)} {ds : List (Str × D)}, fs.map (·.1) = ds.map (·.1) → Dts K mg F (fs.map (·.2)) (ds.map (·.2)) →
    (putF f v fs).map (·.1) = (putFD f d ds).map (·.1) ∧ Dts K mg F ((putF f v fs).map (·.2)) ((putFD f d ds).map (·.2)) := by
  intro fs
  induction fs with
  | nil => intro ds k tt; cases ds with
    | nil => exact ⟨rfl, .cons t .nil⟩
    | cons _ _ => cases k
  | cons p fs ih =>
    intro ds k tt
    cases ds with
    | nil => cases k
    | cons q ds =>
      obtain ⟨g, v'⟩ := p
      obtain ⟨g', d'⟩ := q
      simp only [List.map_cons, List.cons.injEq] at k
      obtain ⟨k1, k2⟩ := k
      subst k1
      cases tt with
      | cons t1 t2 =>
        unfold putF putFD
        by_cases z : g = f
        · rw [if_pos z, if_pos z]
          exact ⟨by simp only [List.map_cons]; rw [k2], .cons t t2⟩
        · rw [if_neg z, if_neg z]
          obtain ⟨i1, i2⟩ := ih k2 t2
          exact ⟨by simp only [List.map_cons]; rw [i1], .cons t1 i2⟩
def M.setF (cn : Str) (i : Nat) (f : Str) (fe : M D) : M Out := fe.bind fun d ρ => match ownI cn ρ[i]? with
  | some ds => if ds.length < 1000 then .ok .nx (ρ.set i (reSl (.ob cn (putFD f d ds)) ρ[i]?)) else .no
  | none => .no
theorem ds_setF {p' : Pos} (fx : Fit X c) (hC : X.mg cn = some (.ref C)) (cl : Cls X.K C) (na : NoAttr X.K C f) (hN : X.N[i]? = some x) (hv : Vis X.env.scope x) (he : DE X c e fe) (hd : (x == ("__debug__" : Str)) = false := by decide) (hcd : (x == ("__classdict__" : Str)) = false := by decide)
    (hs : swapsWith e (some (.Attribute (.Name x p) f p')) pos.line X.env = pure false := by rfl) : DS X c (.Assign [.Attribute (.Name x p) f p'] e pos) (M.setF cn i f fe) :=
  PSw (ps_fld (pe_var hN hv hd hcd) he hs) fun E σ H ⟨F, ρ, rr, h⟩ => ⟨F, ρ, rr, (Sst.bind (σ := σ) h).mono (.refl _) fun v H1 ⟨F1, ρ1, d, r1, l1, t1, h1⟩ => by
    cases e : ownI cn ρ1[i]? with
    | none => rw [e] at h1; exact False.elim h1
    | some ds =>
      rw [e] at h1
      dsimp only at h1
      obtain ⟨q, C', dx, fs, eσ, fq, m, eH, k, t, sl, hsl, eρ, ere⟩ := r1.atI e
      rw [fx.mg, m] at hC
      cases hC
      by_cases z : ds.length < 1000
      · rw [if_pos z, ere] at h1
        obtain ⟨i1, i2⟩ := putF_of (f := f) t1 k t
        refine ⟨.ref q, eσ, q, C, dx, fs, rfl, eH, cl, na, ?_, h1 σ F1 _ (r1.extB hsl eρ eσ (extB_upd r1.sub fq eH) ⟨C, dx, _, m, upd_same, i1, i2⟩) (.refl _)⟩
        have := congrArg List.length k
        rw [List.length_map, List.length_map] at this
        rw [this]; exact z
      · rw [if_neg z] at h1; exact False.elim h1⟩

/-! ### properties -/
theorem passNo (fx : Fit X c) : Passes (L2.CX X.prog X.w) X (fun cls d H => ∀ σ, c.W cls d σ H) := fun pins σ H s e s' I z => fx.tk e s' (XE.of_call I (fun _ _ _ h => h σ) z)

/-! ### instances made -/
def M.mk (n : Nat) (cn : Str) (fn : D → List D → Res (D × D)) (fs : M (List D)) : M D := fs.bind fun ds ρ => if ds.length + 1 = n then match fn (.ob cn []) ds with
  | .ok (.non, t) => .ok t ρ
  | .er k fs => .er k fs ρ
  | _ => .no
  else .no
theorem mk_end {n : Nat} {fn : D → List D → Res (D × D)} {x dx : Addr} {ws : List V} {ds : List D} {Q : VK} (fx : Fit X c) (rr : R c F H σ ρ) (hx : H x = none) (hdx : H dx = none) (hne : dx ≠ x) (m : c.mg cn = some (.ref C)) (tt : c.Dts F ws ds) (z : ds.length + 1 = n)
    (h : Pst c σ F ((match fn (.ob cn []) ds with | .ok (.non, t) => fun ρ => Ret.ok t ρ | .er k fs => fun ρ => .er k fs ρ | _ => fun _ => .no : M D) ρ) Q) :
    spB c.K c.mg c.T n fn (.ref x :: ws) (upd (upd H dx (.own x)) x (.ins C dx [])) (fun v H2 => v = .non ∧ Q (.ref x) H2) (fun cls d H => ∀ σ, c.W cls d σ H) := by
  have nF : ∀ {b}, H b = none → F b = none := fun {b} e => by
    cases q : F b with
    | none => rfl
    | some o => rw [rr.sub b o q] at e; cases e
  have up : ∀ {b : Addr} {o : HO}, H b = some o → upd (upd H dx (.own x)) x (.ins C dx []) b = some o := fun {b o} e => by
    rw [upd_ne (fun q => by rw [q, hx] at e; cases e), upd_ne (fun q => by rw [q, hdx] at e; cases e)]; exact e
  have ext : ∀ {F' H' : Hp}, ExtB c.T x F (upd (upd H dx (.own x)) x (.ins C dx [])) F' H' → (∀ b o, NoT c.T b → H b = some o → H' b = some o) ∧ (∀ b, H b ≠ none → F' b = F b) ∧ (∀ b, H b ≠ none → H' b ≠ none) ∧ LamX.Tabs c.T H' := fun {F' H'} e =>
    ⟨fun b o n q => e.h b o n (fun z => by rw [z, hx] at q; cases q) (up q), fun b q => by
      obtain ⟨o, q'⟩ := ne_some q
      exact e.old b (some_ne (up q')), fun b q => by
      obtain ⟨o, q'⟩ := ne_some q
      exact e.dm b (some_ne (up q')), e.tab (rr.tab.ext fun b o q => up q)⟩
  refine ⟨F, x, .ob cn [], ws, ds, rfl, ⟨rr.tab.ext fun b o q => up q, rr.ft, fun b o q => up (rr.sub b o q)⟩, nF hx, ⟨C, dx, [], m, upd_same, rfl, .nil⟩, tt, z, ?_⟩
  cases e : fn (.ob cn []) ds with
  | no => rw [e] at h; exact False.elim h
  | er k fs =>
    rw [e] at h
    intro C' dd F' H' fv mk ex e1 e2 e3 σ'
    obtain ⟨x1, x2, x3, x4⟩ := ext ex
    exact fx.wσ _ _ _ _ _ (h C' dd F' H' fv mk (rr.ext ⟨x1, fun _ => x4, x3, x2, ex.sub⟩) (fun b o q => by rw [x2 b (by rw [rr.sub b o q]; exact fun z => by cases z)]; exact q) e1 e2 e3)
  | ok r =>
    obtain ⟨d, t⟩ := r
    rw [e] at h
    cases d with
    | non =>
      intro v F' H' ex ow dv
      cases dv
      obtain ⟨x1, x2, x3, x4⟩ := ext ex
      obtain ⟨o, eo⟩ := ow.there
      have fx' : F' x = none := by
        cases q : F' x with
        | none => rfl
        | some u =>
          have q2 := ex.old x (by rw [upd_same]; exact fun z => by cases z)
          rw [q2, nF hx] at q; cases q
      refine ⟨rfl, h (.ref x) (upd F' x o) H' (rr.ext ⟨x1, fun _ => x4, x3, fun b q => ?_, fun b u q => ?_⟩) (fun b u q => ?_) (ow.dt eo fx')⟩
      · rw [upd_ne (fun z => q (by rw [z]; exact hx))]; exact x2 b q
      · by_cases zb : b = x
        · subst zb; rw [upd_same] at q; cases q; exact eo
        · rw [upd_ne zb] at q; exact ex.sub b u q
      · have hb := rr.sub b u q
        rw [upd_ne (fun z => by rw [z, hx] at hb; cases hb), x2 b (by rw [hb]; exact fun z => by cases z)]; exact q
    | _ => exact False.elim h
theorem mk_endR {n : Nat} {fn : D → List D → Res (D × D)} {x dx : Addr} {ws : List V} {ds : List D} {Q : VK} (fx : Fit X c) (rr : R c F H σ ρ) (hx : H x = none) (hdx : H dx = none) (hne : dx ≠ x) (m : c.mg cn = some (.ref C)) (tt : c.Dts F ws ds) (z : ds.length + 1 = n)
    (h1 : Pst c σ F (match fn (.ob cn []) ds with | .ok (.non, t) => .ok t ρ | .er k fs => .er k fs ρ | _ => .no) Q) :
    spB c.K c.mg c.T n fn (.ref x :: ws) (upd (upd H dx (.own x)) x (.ins C dx [])) (fun v H2 => v = .non ∧ Q (.ref x) H2) (fun cls d H => ∀ σ, c.W cls d σ H) := by
  refine mk_end fx rr hx hdx hne m tt z ?_
  cases e : fn (.ob cn []) ds with
  | no => rw [e] at h1; exact h1
  | er _ _ => rw [e] at h1; exact h1
  | ok r => rw [e] at h1; obtain ⟨d, t⟩ := r; cases d <;> exact h1
theorem de_mk {k n : Nat} {fI : Addr} {fd : FuncData} {ps : List Str} {fn : D → List D → Res (D × D)} (fx : Fit X c) (Mk' : Mk X.K C fI) (Fn : FnOk X.prog X.w X.K X.mg X.base (L2.CX X.prog X.w) k fI fd ps (spB X.K X.mg c.T n fn)) (hr : Room (k + 1) X.A) (hg : Gl X cn) (hm : X.mg cn = some (.ref C)) (hb : Binds X.K fd ps [])
    (ha : DA X c (a :: es) fs) (hdb : (cn == ("__debug__" : Str)) = false := by decide) (he : starEach (a :: es) X.env = (false, eval a X.env) :: starEach es X.env := by rfl) (hpl : (backTo pos (starEach es X.env)).any (·.1) = false := by rfl) :
    DE X c (.Call (.Name cn p) (a :: es) [] pos) (M.mk n cn fn fs) :=
  PEw (pe_make Mk' Fn hr hg hm hb .nil (passNo fx) ha hdb he hpl) fun σ H Q ⟨F, ρ, rr, h⟩ => ⟨F, ρ, rr, (Pst.bindA h).mono (.refl _) fun vs H1 ⟨F1, ρ1, ds, r1, l1, t1, h1⟩ => by
    intro x dx n1 n2 n3
    rw [fx.mg] at hm
    by_cases z : ds.length + 1 = n
    · rw [if_pos z] at h1
      rw [List.append_nil, fx.k, fx.mg]
      refine mk_end fx r1 n1 n2 n3 hm t1 z ?_
      cases e : fn (.ob cn []) ds with
      | no => rw [e] at h1; exact h1
      | er _ _ => rw [e] at h1; exact h1
      | ok r => rw [e] at h1; obtain ⟨d, t⟩ := r; cases d <;> exact h1
    · rw [if_neg z] at h1; exact False.elim h1⟩

/-! ### own errors with one attribute, raised -/
/-- __init__(self, g): self.g = g -/
def spI (K : PySem.W.Frag) (g : Str) : Sp := fun vs H Q _ => ∃ a y, ∃ C : Addr, vs = [.ref a, y] ∧ OexC K C ∧ PySem.W.findIn K (.ref C) g = some none ∧ H a = some (exo a C none) ∧
  ∀ dx, H dx = none → dx ≠ a → Q .non (upd (upd H dx (exd dx [(g, y)])) a (exo a C (some dx)))
theorem fn_spI {P : Program} {w : World} {K : PySem.W.Frag} {mg : Str → Option Value} {base : Heap} {x qual g : Str} {st : Stmt} {f : Addr} {fd : FuncData} {k : Nat} {p1 p2 p3 p4 : Pos} (Fn : Fun K x qual st f fd) (S : FnScope ["self", g] ["self", g] (defScope st))
    (hb : defBody st = [.Assign [.Attribute (.Name "self" p1) g p2] (.Name g p3) p4]) (hs : (g == ("__debug__" : Str)) = false := by decide) (hc : (g == ("__classdict__" : Str)) = false := by decide) : FnOk P w K mg base (L2.CX P w) (k + 1) f fd ["self", g] (spI K g) := by
  refine Fn.okX S (fun vs H Q E ⟨a, y, C, ev, _⟩ => by rw [ev]; rfl) fun cdv A outer s H vs Q E hr ⟨a, y, C, ev, T, hno, ea, q⟩ => ?_
  subst ev
  rw [hb]
  have vis : ∀ z ∈ (["self", g] : List Str), Vis (defScope st) z := fun z hz => (S.par z hz).elim .inl fun h => .inr (.inl h)
  refine ⟨_, pss_one (ps_ost (pe_var (i := 0) rfl (vis _ (.head _)) (by decide) (by decide)) (pe_var (i := 1) rfl (vis _ (.tail _ (.head _))) hs hc)), ?_⟩
  exact ⟨y, rfl, .ref a, rfl, a, C, rfl, T, hno, .inl ⟨ea, fun dx n ne => q dx n ne⟩⟩
/-- raise cn(e) -/
def M.rai (cn g : Str) (fe : M D) : M Out := fe.bind fun d ρ => .er cn [(g, d)] ρ
theorem ds_rai {k : Nat} {g : Str} {fI : Addr} {fd : FuncData} (hcalm : X.calm = true) (T : OexC X.K C) (iC : PySem.W.findIn X.K (.ref C) "__init__" = some (some (.ref fI))) (tI : PySem.W.typeIn X.K (.ref fI) = some (.type "function")) (hno : PySem.W.findIn X.K (.ref C) g = some none)
    (fx : Fit X c) (Fn : FnOk X.prog X.w X.K X.mg X.base (L2.CX X.prog X.w) k fI fd ["self", g] (spI X.K g)) (hr : Room (k + 1) X.A) (hb : Binds X.K fd ["self", g] []) (hg : Gl X cn) (hm : X.mg cn = some (.ref C)) (he : DE X c e fe)
    (hdb : (cn == ("__debug__" : Str)) = false := by decide) (hst : starEach [e] X.env = (false, eval e X.env) :: starEach [] X.env := by rfl) :
    DS X c (.Raise (some (.Call (.Name cn p) [e] [] p2)) none pos) (M.rai cn g fe) :=
  PSw (ps_raise hcalm fx.tk (pmk_oex T iC tI Fn hr hb .nil (fun pins σ H s e s' I z => by
      refine fx.tk e s' (XE.of_call I (fun _ _ _ h => ?_) z); exact h.elim) hg hm (pa_cons he pa_nil hst) hdb hst)) fun E σ H ⟨F, ρ, rr, h⟩ => ⟨F, ρ, rr, (Sst.bind (σ := σ) h).mono (.refl _) fun v H1 ⟨F1, ρ1, d, r1, l1, t1, h1⟩ => by
    refine ⟨by simp, fun a ha => ⟨a, v, C, rfl, T, hno, upd_same, fun dx n ne => ⟨rfl, dx, [(g, v)], upd_same, ?_, ?_, ?_⟩⟩⟩
    · rw [upd_ne ne, upd_same]
    · rw [upd_ne ne] at n; exact n
    · rw [upd_ne ne] at n
      have e1 : upd (del (upd (upd (upd H1 a (exo a C none)) dx (exd dx [(g, v)])) a (exo a C (some dx))) a) dx (.xd [(g, v)]) = upd H1 dx (.xd [(g, v)]) := by
        funext b
        by_cases z : b = dx
        · rw [z, upd_same, upd_same]
        · rw [upd_ne z, upd_ne z]
          by_cases z2 : b = a
          · rw [z2, del_same, ha]
          · rw [del_ne z2, upd_ne z2, upd_ne z, upd_ne z2]
      rw [e1]
      exact h1 C dx σ _ _ [(g, v)] (by rw [← fx.mg]; exact hm) (r1.ext (.new r1.sub n)) ((Ext.new (T := c.T) r1.sub n).le r1.sub) upd_same rfl (.cons (t1.le ((Ext.new (T := c.T) r1.sub n).le r1.sub)) .nil)⟩
end
end DL

set_option Elab.async false
set_option linter.all false
set_option maxRecDepth 100000
set_option maxHeartbeats 4000000
/-! DLB: properties, class methods, classes held by a name, keyword calls. -/
namespace DL
open PySem PySem.Spec PyProof.Rows L2
section
variable {X : Cx} {c : Fc} {F H : Hp} {σ : L2.St} {ρ : Sls} {a b e o : Expr} {fa fb fe : M D} {es : List Expr} {fs : M (List D)} {pos p apos : Pos} {i : Nat} {x f cn m : Str} {C g pa : Addr}

/-! ### properties -/
def okOf : Res D → M D
  | .ok d => M.ret d
  | _ => M.no
def M.prop (cn : Str) (fn : List D → Res D) (fa : M D) : M D := fa.bind fun d => match d with
  | .ob c fs => if c = cn then okOf (fn [.ob c fs]) else M.no
  | _ => M.no
theorem passF : Passes (L2.CX X.prog X.w) X (fun _ _ _ => False) := fun pins σ H s e s' I ⟨_, _, _, _, _, _, _, _, _, _, _, _, z⟩ => z.elim
theorem passFn : Passes (L2.CX X.prog X.w) X.nox (fun _ _ _ => False) := fun pins σ H s e s' I ⟨_, _, _, _, _, _, _, _, _, _, _, _, z⟩ => z.elim
/-- an end that is no error -/
theorem end_ok {K : PySem.W.Frag} {mg : Str → Option Value} {Q : VK} {E : XK} {r : Res D} (fx : K = c.K) (fm : mg = c.mg) (rr : R c F H σ ρ) (h : Pst c σ F (okOf r ρ) Q) : endD K mg c.T F H r Q E := by
  subst fx fm
  cases r with
  | ok d => exact fun v F' H' e t => h v F' H' (rr.ext e) (e.le rr.sub) t
  | er k fs => exact h.elim
  | no => exact h.elim
theorem de_prop {k : Nat} {fd : FuncData} {ps : List Str} {fn : List D → Res D} (fx : Fit X c) (hC : X.mg cn = some (.ref C)) (cl : Cls X.K C) (hp : PropOf X.K C f pa g) (Fn : FnOk X.prog X.w X.K X.mg X.base (L2.CX X.prog X.w) k g fd ps (spD X.K X.mg c.T 1 fn)) (hr : Room (k + 1) X.A) (hb : Binds X.K fd ps [])
    (ha : DE X c a fa) (hab : attributeBase a f X.env (eval a X.env) = eval a X.env := by rfl) : DE X c (.Attribute a f pos) (M.prop cn fn fa) :=
  PEw (pe_prop (E := fun _ _ _ => False) ha cl hp Fn hr hb .nil passFn hab) fun σ H Q ⟨F, ρ, rr, h⟩ => ⟨F, ρ, rr, (Pst.bind h).mono (.refl _) fun v H1 ⟨F1, ρ1, d, r1, l1, t1, h1⟩ => by
    cases t1 with
    | @ob a' C' dx c' fs' ds' m e k t =>
      dsimp only at h1
      by_cases z : c' = cn
      · subst z
        rw [if_pos rfl] at h1
        rw [fx.mg] at hC
        rw [hC] at m
        cases m
        exact ⟨_, dx, fs', rfl, r1.sub _ _ e, F1, _, ⟨r1.tab, r1.ft, r1.sub⟩, .cons (.ob (by rw [fx.mg]; exact hC) e k (by rw [fx.k, fx.mg]; exact t)) .nil, rfl, end_ok fx.k fx.mg r1 h1⟩
      · rw [if_neg z] at h1; exact False.elim h1
    | _ => exact False.elim h1⟩

/-! ### a class method: C.m(..) -/
/-- the promise of a def, taken at all slots -/
theorem endN {K : PySem.W.Frag} {mg : Str → Option Value} {Q : VK} {r : Res D} (fx : Fit X c) (hk : K = c.K) (hm : mg = c.mg) (rr : R c F H σ ρ) (h : Pst c σ F (M.res r ρ) Q) : endD K mg c.T F H r Q (fun cls d H => ∀ σ, c.W cls d σ H) := by
  subst hk hm
  cases r with
  | ok d => exact fun v F' H' e t => h v F' H' (rr.ext e) (e.le rr.sub) t
  | er k fs => exact fun C dd F' H' fv m e e1 e2 e3 σ' => fx.wσ _ _ _ _ _ (h C dd F' H' fv m (rr.ext e) (e.le rr.sub) e1 e2 e3)
  | no => exact h.elim
theorem de_cmeth {k n : Nat} {mc : Value} {fd : FuncData} {ps : List Str} {fn : List D → Res D} {pl : Sem Bool} (fx : Fit X c) (hg : Gl X cn) (hC : X.mg cn = some (.ref C)) (r : ClX.CRead X.K C mc) (cm : ClX.CMet X.K C mc m pa g) (Fn : FnOk X.prog X.w X.K X.mg X.base (L2.CX X.prog X.w) k g fd ps (spD X.K X.mg c.T n fn)) (hr : Room k X.A) (hb : Binds X.K fd ps [])
    (ha : DA X c (a :: es) fs) (hdb : (cn == ("__debug__" : Str)) = false := by decide) (hst : starEach (a :: es) X.env = (false, eval a X.env) :: starEach es X.env := by rfl) (hpl : (backTo pos (starEach es X.env)).any (·.1) = false := by rfl)
    (ht : eval (.Call (.Attribute (.Name cn p) m apos) (a :: es) [] pos) X.env = (do
      let ov ← eval (.Name cn p) X.env
      standAt apos.atName
      let (f, first) ← holding [ov] (getMethod ov m pl)
      callWith pos f first (backTo pos (starEach (a :: es) X.env)) (backToKw pos (keywordEach [] X.env))) := by rfl) :
    DE X c (.Call (.Attribute (.Name cn p) m apos) (a :: es) [] pos) (fs.bind fun ds => M.call n fn (.cl cn :: ds)) :=
  PEw (ClX.pe_cmeth (pl := pl) (pe_glob (v := .ref C) hg hC rfl hdb) r cm (Fn.raw hb .nil) hr (passNo fx) ha hst hpl ht) fun σ H Q ⟨F, ρ, rr, h⟩ => by
    have hC' := hC
    rw [fx.mg] at hC'
    refine ⟨rfl, F, ρ, rr, (Pst.bindA h).mono (.refl _) fun vs H1 ⟨F1, ρ1, ds, r1, l1, t1, h1⟩ => ?_⟩
    show spD X.K X.mg c.T n fn ((V.ref C :: vs) ++ []) H1 Q _
    rw [List.append_nil]
    obtain ⟨z, h1⟩ := Pst.grd (b := (D.cl cn :: ds).length = n) h1
    exact ⟨F1, .cl cn :: ds, ⟨r1.tab, r1.ft, r1.sub⟩, .cons (.cl (by rw [fx.mg]; exact hC')) (by rw [fx.k, fx.mg]; exact t1), z, endN fx fx.k fx.mg r1 h1⟩

/-! ### C(..), the class held by a name of the def -/
def tMakeL (i : Nat) (C : Addr) (sp : Sp) (E : XK) (t : TA) : TE := fun σ H Q => σ[i]? = some (some (.ref C)) ∧ tMake C sp [] E t σ H Q
theorem pe_makeL {CX : CXT} {k : Nat} {f : Addr} {fd : FuncData} {ps : List Str} {sp : Sp} {E : XK} {t : TA} (M : Mk X.K C f) (Fn : FnOk X.prog X.w X.K X.mg X.base CX k f fd ps sp) (hr : Room (k + 1) X.A) (hN : X.N[i]? = some x) (hv : Vis X.env.scope x) (hb : Binds X.K fd ps []) (hx : Passes CX X E) (ha : PA X (a :: es) t)
    (hdb : (x == ("__debug__" : Str)) = false := by decide) (hcd : (x == ("__classdict__" : Str)) = false := by decide)
    (he : starEach (a :: es) X.env = (false, eval a X.env) :: starEach es X.env := by rfl) (hpl : (backTo pos (starEach es X.env)).any (·.1) = false := by rfl) : PE X (.Call (.Name x p) (a :: es) [] pos) (tMakeL i C sp E t) :=
  ⟨fun pins s σ H Q I ⟨hs, ht⟩ => wpAny_Call_Name_kw (thn ((pe_var (pos := p) hN hv hdb hcd).run pins s σ H (fun v H1 => v = .ref C ∧ H1 = H) I ⟨.ref C, hs, rfl, rfl⟩) fun u s1 ⟨v, H1, I1, r1, q1⟩ => by
    obtain ⟨rfl, rfl⟩ := q1
    cases r1
    exact PySem.W.callWith_K (h₀ := X.base) I.ok.mod.kin M.kp (thn (ha.run pos pins s1 σ _ _ I1 ht) fun us s2 ⟨vs, H2, I2, r, q⟩ => ⟨I2.kIn, run_make M Fn hr hb .nil hx I2 r q⟩) he hpl)⟩
def M.mkL (i n : Nat) (cn : Str) (fn : D → List D → Res (D × D)) (fs : M (List D)) : M D := fun ρ => match ρ[i]? with
  | some (.im (.cl k)) => if k = cn then M.mk n cn fn fs ρ else .no
  | _ => .no
theorem de_mkL {k n : Nat} {fI : Addr} {fd : FuncData} {ps : List Str} {fn : D → List D → Res (D × D)} (fx : Fit X c) (Mk' : Mk X.K C fI) (Fn : FnOk X.prog X.w X.K X.mg X.base (L2.CX X.prog X.w) k fI fd ps (spB X.K X.mg c.T n fn)) (hr : Room (k + 1) X.A) (hm : X.mg cn = some (.ref C)) (hb : Binds X.K fd ps [])
    (hN : X.N[i]? = some x) (hv : Vis X.env.scope x) (ha : DA X c (a :: es) fs) (hdb : (x == ("__debug__" : Str)) = false := by decide) (hcd : (x == ("__classdict__" : Str)) = false := by decide)
    (he : starEach (a :: es) X.env = (false, eval a X.env) :: starEach es X.env := by rfl) (hpl : (backTo pos (starEach es X.env)).any (·.1) = false := by rfl) :
    DE X c (.Call (.Name x p) (a :: es) [] pos) (M.mkL i n cn fn fs) :=
  PEw (pe_makeL Mk' Fn hr hN hv hb (passNo fx) ha hdb hcd he hpl) fun σ H Q ⟨F, ρ, rr, h⟩ => by
    rw [fx.mg] at hm
    unfold M.mkL at h
    have sl := rr.sl i
    split at h
    · rename_i k' e
      rw [e] at sl
      by_cases zk : k' = cn
      · subst zk
        rw [if_pos rfl] at h
        obtain ⟨v, e1, t⟩ := sl
        cases t with
        | cl m =>
          rw [hm] at m
          cases m
          refine ⟨e1, F, ρ, rr, (Pst.bindA h).mono (.refl _) fun vs H1 ⟨F1, ρ1, ds, r1, l1, t1, h1⟩ => ?_⟩
          intro x dx n1 n2 n3
          by_cases z : ds.length + 1 = n
          · rw [if_pos z] at h1
            rw [List.append_nil, fx.k, fx.mg]
            exact mk_endR fx r1 n1 n2 n3 hm t1 z h1
          · rw [if_neg z] at h1; exact False.elim h1
      · rw [if_neg zk] at h; exact False.elim h
    · exact False.elim h
end
end DL

set_option Elab.async false
set_option linter.all false
set_option maxRecDepth 100000
set_option maxHeartbeats 4000000
/-! DLC: calls by keywords alone. -/
namespace DL
open PySem PySem.Spec PyProof.Rows L2
def pick {α : Type} (π : List Nat) (zs : List α) : List α := π.filterMap fun i => zs[i]?
section
variable {X : Cx} {c : Fc} {F H : Hp} {σ : L2.St} {ρ : Sls} {e : Expr} {fe : M D} {fs : M (List D)} {pos p kpos : Pos} {x cn : Str} {C : Addr} {kws : List Keyword} {π : List Nat} {nm : Option Str} {ks ps : List Str}
theorem pick_vals {zs : List V} {ws : List Value} (h : Vals zs ws) : ∀ π : List Nat, Vals (pick π zs) (pick π ws)
  | [] => .nil
  | i :: π => by
    unfold pick
    rw [List.filterMap_cons, List.filterMap_cons]
    have r := pick_vals h π
    unfold pick at r
    cases e : zs[i]? with
    | none =>
      have e2 : ws[i]? = none := by
        rw [List.getElem?_eq_none_iff] at e ⊢
        rw [← h.length]; exact e
      rw [e2]; exact r
    | some z =>
      obtain ⟨w, hw, rw'⟩ := h.get e
      rw [hw]; exact .cons rw' r
theorem pick_dts {K : PySem.W.Frag} {mg : Str → Option Value} {zs : List V} {ds : List D} (h : Dts K mg F zs ds) : ∀ π : List Nat, Dts K mg F (pick π zs) (pick π ds)
  | [] => .nil
  | i :: π => by
    unfold pick
    rw [List.filterMap_cons, List.filterMap_cons]
    have r := pick_dts h π
    unfold pick at r
    cases e : ds[i]? with
    | none =>
      have e2 : zs[i]? = none := by
        rw [List.getElem?_eq_none_iff] at e ⊢
        rw [h.length]; exact e
      rw [e2]; exact r
    | some d =>
      obtain ⟨z, hz, dt⟩ := h.get e
      rw [hz]; exact .cons dt r
/-- the keywords' values, in the order written -/
def DK (X : Cx) (c : Fc) (kws : List Keyword) (f : M (List D)) : Prop := PK X kws (tAs c f)
theorem dk_nil : DK X c [] (M.ret []) := ⟨fun pos pins s σ H Q I ⟨F, ρ, r, h⟩ => pk_nil.run pos pins s σ H Q I (h [] F H r (.refl _) .nil)⟩
theorem dk_cons (ha : DE X c e fe) (hr : DK X c kws fs) : DK X c (⟨nm, e, kpos⟩ :: kws) (fe.cons fs) :=
  ⟨fun pos pins s σ H Q I ⟨F, ρ, rr, h⟩ => (pk_cons ha hr).run pos pins s σ H Q I ⟨F, ρ, rr, (Psts.bind h).mono (.refl _) fun v H1 ⟨F1, ρ1, d, r1, l1, t1, h1⟩ => ⟨F1, ρ1, r1, (Psts.bindA h1).mono (.refl _) fun vs H2 ⟨F2, ρ2, ds, r2, l2, t2, h2⟩ =>
    h2 (v :: vs) F2 H2 r2 (.refl _) (.cons (t1.le l2) t2)⟩⟩⟩
/-- how the keywords find their parameters, behind n positional values -/
theorem kbn_of {K : PySem.W.Frag} {fd : FuncData} (n : Nat) (h : ∀ us ws : List Value, us.length = n → ws.length = ks.length → bindArgs fd ⟨us, ks.zip ws⟩ = pure (ps.zip (us ++ pick π ws))) : KBn K fd ps n ks (fun us ws => us ++ pick π ws) (fun vs zs => vs ++ pick π zs) :=
  ⟨fun s us ws _ l1 l2 => .of_eq (h us ws l1 l2), fun r1 r2 => r1.append (pick_vals r2 π)⟩
def tCallKA (m : Nat) (sp : Sp) (gV : List V → List V → List V) (E : XK) (tk : TA) : TE := fun σ H Q => tk σ H fun zs H2 => zs.length = m ∧ sp (gV [] zs) H2 Q E
theorem pe_callKA {CX : CXT} {k : Nat} {f : Addr} {fd : FuncData} {sp : Sp} {E : XK} {tk : TA} {g : List Value → List Value → List Value} {gV : List V → List V → List V} (Fn : FnOk X.prog X.w X.K X.mg X.base CX k f fd ps sp) (hr : Room k X.A) (hg : Gl X x) (hm : X.mg x = some (.ref f)) (hk : PySem.W.keepIn X.K (.ref f) = true)
    (hb : KBn X.K fd ps 0 ks g gV) (hx : Passes CX X E) (hkw : PK X kws tk)
    (hall : (backToKw pos (keywordEach kws X.env)).all (·.1.isSome) = true := by rfl) (hks : (backToKw pos (keywordEach kws X.env)).filterMap (·.1) = ks := by rfl) (hdb : (x == ("__debug__" : Str)) = false := by decide)
    (hpl : ((backTo pos (starEach [] X.env)).any (·.1) || (backToKw pos (keywordEach kws X.env)).any (·.1.isNone)) = false := by rfl) :
    PE X (.Call (.Name x p) [] kws pos) (tCallKA ks.length sp gV E tk) :=
  ⟨fun pins s σ H Q I h => wpAny_Call_Name_kw (ld_glob I hg hm (PySem.W.callWith_KW0 (h₀ := X.base) I.ok.mod.kin hk hall (thn (hkw.run pos pins s σ H _ I h) fun ws s2 ⟨zs, H2, I2, rz, l2, q2⟩ => ⟨I2.kIn, by
    rw [hks]
    exact run_fnN (us := []) (vs := []) Fn hr hb hx I2 .nil rz rfl l2 q2⟩) hpl) hdb)⟩
def M.callK (n m : Nat) (π : List Nat) (f : List D → Res D) (ds : List D) : M D := M.grd (ds.length = m) (M.call n f (pick π ds))
theorem de_callKA {k n : Nat} {f : Addr} {fd : FuncData} {fn : List D → Res D} (fx : Fit X c) (Fn : FnOk X.prog X.w X.K X.mg X.base (L2.CX X.prog X.w) k f fd ps (spD X.K X.mg c.T n fn)) (hr : Room k X.A) (hg : Gl X x) (hm : X.mg x = some (.ref f)) (hk : PySem.W.keepIn X.K (.ref f) = true)
    (hb : KBn X.K fd ps 0 ks (fun us ws => us ++ pick π ws) (fun vs zs => vs ++ pick π zs)) (ha : DK X c kws fs)
    (hall : (backToKw pos (keywordEach kws X.env)).all (·.1.isSome) = true := by rfl) (hks : (backToKw pos (keywordEach kws X.env)).filterMap (·.1) = ks := by rfl) (hdb : (x == ("__debug__" : Str)) = false := by decide)
    (hpl : ((backTo pos (starEach [] X.env)).any (·.1) || (backToKw pos (keywordEach kws X.env)).any (·.1.isNone)) = false := by rfl) :
    DE X c (.Call (.Name x p) [] kws pos) (fs.bind (M.callK n ks.length π fn)) :=
  PEw (pe_callKA Fn hr hg hm hk hb (passNo fx) ha hall hks hdb hpl) fun σ H Q ⟨F, ρ, rr, h⟩ => ⟨F, ρ, rr, (Pst.bindA h).mono (.refl _) fun vs H1 ⟨F1, ρ1, ds, r1, l1, t1, h1⟩ => by
    obtain ⟨z, h1⟩ := Pst.grd (b := ds.length = ks.length) h1
    obtain ⟨z2, h1⟩ := Pst.grd (b := (pick π ds).length = n) h1
    exact ⟨t1.length.trans z, F1, pick π ds, ⟨r1.tab, r1.ft, r1.sub⟩, by rw [fx.k, fx.mg]; exact pick_dts t1 π, z2, endN fx fx.k fx.mg r1 h1⟩⟩
/-- C(k = v, ..) -/
def M.mkK (n m : Nat) (π : List Nat) (cn : Str) (fn : D → List D → Res (D × D)) (fs : M (List D)) : M D := fs.bind fun ds => M.grd (ds.length = m) (M.mk n cn fn (M.ret (pick π ds)))
theorem de_mkK {k n : Nat} {fI : Addr} {fd : FuncData} {fn : D → List D → Res (D × D)} (fx : Fit X c) (Mk' : Mk X.K C fI) (Fn : FnOk X.prog X.w X.K X.mg X.base (L2.CX X.prog X.w) k fI fd ps (spB X.K X.mg c.T n fn)) (hr : Room (k + 1) X.A) (hg : Gl X cn) (hm : X.mg cn = some (.ref C))
    (hb : KBn X.K fd ps 1 ks (fun us ws => us ++ pick π ws) (fun vs zs => vs ++ pick π zs)) (ha : DK X c kws fs)
    (hall : (backToKw pos (keywordEach kws X.env)).all (·.1.isSome) = true := by rfl) (hks : (backToKw pos (keywordEach kws X.env)).filterMap (·.1) = ks := by rfl) (hdb : (cn == ("__debug__" : Str)) = false := by decide)
    (hpl : ((backTo pos (starEach [] X.env)).any (·.1) || (backToKw pos (keywordEach kws X.env)).any (·.1.isNone)) = false := by rfl) :
    DE X c (.Call (.Name cn p) [] kws pos) (M.mkK n ks.length π cn fn fs) :=
  PEw (pe_makeK0 Mk' Fn hr hg hm hb (passNo fx) ha hall hks hdb hpl) fun σ H Q ⟨F, ρ, rr, h⟩ => by
    show tAs c fs σ H _
    refine ⟨F, ρ, rr, (Pst.bindA h).mono (.refl _) fun vs H1 ⟨F1, ρ1, ds, r1, l1, t1, h1⟩ => ?_⟩
    obtain ⟨z, h1⟩ := Pst.grd (b := ds.length = ks.length) h1
    refine ⟨rfl, t1.length.trans z, fun x dx n1 n2 n3 => ?_⟩
    have h2 : Pst c σ F1 (if (pick π ds).length + 1 = n then match fn (.ob cn []) (pick π ds) with | .ok (.non, t) => .ok t ρ1 | .er k fs => .er k fs ρ1 | _ => .no else .no) Q := h1
    rw [fx.mg] at hm
    by_cases z2 : (pick π ds).length + 1 = n
    · rw [if_pos z2] at h2
      rw [fx.k, fx.mg]
      exact mk_endR fx r1 n1 n2 n3 hm (pick_dts t1 π) z2 h2
    · rw [if_neg z2] at h2; exact False.elim h2
end
end DL

set_option Elab.async false
set_option linter.all false
set_option maxRecDepth 100000
set_option maxHeartbeats 4000000
/-! DX1: own exceptions over any of the three bases, held as values; their attributes. -/
namespace DL
open PySem PySem.Spec PyProof.Rows L2 Builtin.ObjectAttr
/-- a built-in base that exceptions of the text stand over -/
structure XBase (bmB : List Value) (newId : String) : Prop where
  base : ∃ B initId, ExcBaseFacts B newId initId bmB ∧ StoreFacts B bmB "object.__setattr__" "object"
/-- what the text has of such a class, its __init__ the def at fI -/
structure XCls (K : PySem.W.Frag) (C fI : Addr) (bmB : List Value) (newId : String) : Prop where
  b : XBase bmB newId
  q : PySem.W.excInitIn K C bmB newId = true
  ov : PySem.W.excOver K C bmB = true
  sa : PySem.W.findIn K (.ref C) "__setattr__" = some (some (.builtin "object.__setattr__"))
  iC : PySem.W.findIn K (.ref C) "__init__" = some (some (.ref fI))
  tI : PySem.W.typeIn K (.ref fI) = some (.type "function")
  kC : PySem.W.keepIn K (.ref C) = true
  f : XfC K C
theorem xb_Value : XBase [.type "ValueError", .type "Exception", .type "BaseException", .type "object"] "ValueError.__new__" := ⟨_, _, PySem.F.excBase_ValueError, PySem.F.store_ValueError⟩
theorem xb_Lookup : XBase [.type "LookupError", .type "Exception", .type "BaseException", .type "object"] "LookupError.__new__" := ⟨_, _, PySem.F.excBase_LookupError, PySem.F.store_LookupError⟩
theorem xb_Arith : XBase [.type "ArithmeticError", .type "Exception", .type "BaseException", .type "object"] "ArithmeticError.__new__" := ⟨_, _, PySem.F.excBase_ArithmeticError, PySem.F.store_ArithmeticError⟩
section
variable {X : Cx} {pins : List (Addr × Obj)} {σ : L2.St} {H : Hp} {s : Shared} {a C fI dx : Addr} {f : Str} {y : V} {u : Value} {fs : List (Str × V)} {Q : Unit → Shared → Prop} {E : Value → Shared → Prop} {A : Around} {bmB : List Value} {newId : String}
/-- the first attribute of an exception that is being made -/
theorem xst_new (T : XCls X.K C fI bmB newId) (I : Inv X pins σ H s) (e : H a = some (exo a C none)) (hno : PySem.W.findIn X.K (.ref C) f = some none) (ry : RelV y u)
    (h : ∀ dx s', H dx = none → dx ≠ a → Inv X pins σ (upd (upd H dx (exd dx [(f, y)])) a (exo a C (some dx))) s' → Q () s') : wpAny (model X.prog X.w) A (setAttr (.ref a) f u) Q E s := by
  obtain ⟨B, initId, FB, SF⟩ := T.b.base
  obtain ⟨cd, hcd, hh⟩ := PySem.W.any_some T.f.hdC
  obtain ⟨t1, ho⟩ := exo_at I.hok e
  obtain ⟨hp, g, d, t, os⟩ := s
  have htk : PySem.W.takerIn X.K C f = some none := NoAttr.taker hno
  refine PySem.W.set_plain I.kIn (ox := { cls := .ref C, dict := none, data := .fields #[.ref t1, .none, .none, .none, .bool false, .none] }) (od := none) ⟨ho, rfl, rfl, trivial⟩ T.sa (PySem.W.osa_openX (od := none) SF I.kIn ⟨ho, rfl, rfl, trivial⟩ T.ov htk fun b => ?_)
  have hcls : PySem.W.Looks (model X.prog X.w) hp (classData C) cd := PySem.W.looks_clsIn I.kIn hcd
  have hxs : a ≠ hp.objs.size := Nat.ne_of_lt (Heap.lt_size ho)
  obtain ⟨nm, bs, mro, ns, qn, hd, sn, sb, ab, col, del⟩ := cd
  (dsimp only at hh); subst hh
  have step : ∀ (h' : Heap) (tk' : Nat), h'.Ns1 hp.objs.size (fun y => if y = f then some u else none) → Heap.SameBut hp.objs.size ((hp.push { cls := .type "dict", data := .dict #[] }).update a fun o => { o with dict := some hp.objs.size }) h' → Q () ⟨h', g, d, tk', os⟩ := fun h' tk' hn hs => by
    have hx₁ : (hp.push { cls := .type "dict", data := .dict #[] }).get? a = some { cls := .ref C, dict := none, data := .fields #[.ref t1, .none, .none, .none, .bool false, .none] } := Heap.get?_push_of_some _ ho
    have kk : ∀ b o, b ≠ a → hp.get? b = some o → h'.get? b = some o := fun b o hb hq => (hs.2 b (Nat.ne_of_lt (Heap.lt_size hq))).trans ((Heap.get?_update_ne _ _ _ _ hb).trans (Heap.get?_push_of_some _ hq))
    have hx : h'.get? a = some { cls := .ref C, dict := some hp.objs.size, data := .fields #[.ref t1, .none, .none, .none, .bool false, .none] } := (hs.2 a hxs).trans (Heap.get?_update_self _ hx₁ rfl)
    have hnd : H hp.objs.size = none := I.hok.fresh (Nat.le_refl _)
    have nd : ∀ {b : Addr} {o : Obj}, hp.get? b = some o → b ≠ hp.objs.size := fun {b o} q => Nat.ne_of_lt (Heap.lt_size q)
    have na : ∀ {b : Addr}, H b = none → b ≠ a := fun {b} n z => by rw [z, e] at n; cases n
    have U : Un X.fs [] H (upd (upd H hp.objs.size (exd hp.objs.size [(f, y)])) a (exo a C (some hp.objs.size))) hp h' :=
      { keep := fun b o q n _ _ => kk b o (na n) q, slot := fun b o q n _ _ => ⟨o.slots, kk b o (na n) q⟩, free := fun b o q n _ => by rw [upd_ne (na n), upd_ne (nd q)]; exact n
        there := fun b o q _ => by
          by_cases hb : b = a
          · exact ⟨_, by rw [hb]; exact hx⟩
          · exact ⟨o, kk b o hb q⟩
        tups := (fun b xs q => by rw [upd_ne (at_ne e q exo_tup), upd_ne (ne_of_none q hnd)]; exact q), frzs := (fun b o v q => by rw [upd_ne (at_ne e q exo_frz), upd_ne (ne_of_none q hnd)]; exact q)
        tbls := fun b ps q => ⟨#[], by rw [upd_ne (at_ne e q exo_tbl), upd_ne (ne_of_none q hnd), q]; simp⟩ }
    refine h hp.objs.size _ hnd hxs.symm (I.un (t' := tk') U fun b o q => ?_)
    by_cases hb : b = a
    · subst hb; rw [upd_same] at q; cases q; exact exo_ok hx
    rw [upd_ne hb] at q
    by_cases hd : b = hp.objs.size
    · subst hd; rw [upd_same] at q; cases q; exact exd_ok hn (relO_put (fs := []) ry fun g => True.intro)
    rw [upd_ne hd] at q
    refine (I.hok b o q).stay (fun c v hc z => kk c v ?_ z) (fun c hc => by rw [upd_ne (at_ne e hc exo_own), upd_ne (ne_of_none hc hnd)]; exact hc) (fun c xs hc => by rw [upd_ne (at_ne e hc exo_tup), upd_ne (ne_of_none hc hnd)]; exact hc)
    rcases hc with hc | hc
    · rw [hc]; exact hb
    · exact at_ne e hc exo_own
  show wpAny _ _ (storeInOwnDict (.ref a) (.ref C) (.str f t) f u b) _ _ _
  unfold storeInOwnDict ownDictForStores
  cases b <;> (repeat (first | with_reducible refine PySem.HandSPX.store_in_new ?_ ?_ | with_reducible refine wpAny_loadPart_at ho ?_ | with_reducible refine hcls.at ?_ | wp_step))
  all_goals first
    | exact ⟨_, #[], _, (Heap.get?_update_ne _ _ _ _ hxs.symm).trans (Heap.get?_push_at rfl rfl), rfl, fun e he => absurd he (by simp), fun _ => rfl⟩
    | exact fun h' tk' hn hs => step h' tk' hn hs
/-- a further one -/
theorem xst_old (T : XCls X.K C fI bmB newId) (I : Inv X pins σ H s) (e : H a = some (exo a C (some dx))) (ed : H dx = some (exd dx fs)) (hl : fs.length ≤ 900) (hno : PySem.W.findIn X.K (.ref C) f = some none) (ry : RelV y u)
    (h : ∀ s', Inv X pins σ (upd H dx (exd dx ((f, y) :: fs))) s' → Q () s') : wpAny (model X.prog X.w) A (setAttr (.ref a) f u) Q E s := by
  obtain ⟨B, initId, FB, SF⟩ := T.b.base
  obtain ⟨cd, hcd, hh⟩ := PySem.W.any_some T.f.hdC
  obtain ⟨t1, ho⟩ := exo_at I.hok e
  obtain ⟨mA, hns, rel⟩ := exd_at I.hok ed
  have hw := within_of rel
  obtain ⟨hp, g, d, t, os⟩ := s
  obtain ⟨oD, _, _, hoD, _, _⟩ := hns.count hw
  have htk : PySem.W.takerIn X.K C f = some none := NoAttr.taker hno
  have at_ : PySem.W.InstAt hp a { cls := .ref C, dict := some dx, data := .fields #[.ref t1, .none, .none, .none, .bool false, .none] } C (some oD) := ⟨ho, rfl, rfl, hoD⟩
  refine PySem.W.set_plain I.kIn (od := some oD) at_ T.sa (PySem.W.osa_openX (od := some oD) SF I.kIn at_ T.ov htk fun b => ?_)
  have hcls : PySem.W.Looks (model X.prog X.w) hp (classData C) cd := PySem.W.looks_clsIn I.kIn hcd
  obtain ⟨nm, bs, mro, ns, qn, hd, sn, sb, ab, col, del⟩ := cd
  (dsimp only at hh); subst hh
  show wpAny _ _ (storeInOwnDict (.ref a) (.ref C) (.str f t) f u b) _ _ _
  unfold storeInOwnDict ownDictForStores
  cases b <;> (repeat (first | with_reducible refine PySem.OEX.store_in_old hns hw (by rw [List.length_map]; omega) ?_ | with_reducible refine wpAny_loadPart_at ho ?_ | with_reducible refine hcls.at ?_ | wp_step))
  all_goals
    intro h' tk' hn hs
    have hd' : ∃ o, h'.get? dx = some o := by obtain ⟨o, _, _, e', _⟩ := hn; exact ⟨o, e'⟩
    exact h _ (I.write (t' := tk') (x := dx) (e := dx) (o := exd dx ((f, y) :: fs)) (by rw [ed]; exact True.intro) (.inl rfl) (fun b o hb ho => (hs.2 b hb).trans ho) hd' (exd_ok hn (relO_put ry rel)))
end

/-! ### self.f = e in such an __init__ -/
def tXst (C : Addr) (f : Str) (to te : TE) : TS := fun D σ H => te σ H fun y H1 => to σ H1 fun x H2 => ∃ a : Addr, x = .ref a ∧
  ((H2 a = some (exo a C none) ∧ ∀ dx, H2 dx = none → dx ≠ a → D.nx σ (upd (upd H2 dx (exd dx [(f, y)])) a (exo a C (some dx)))) ∨
    ∃ (dx : Addr) (fs : List (Str × V)), H2 a = some (exo a C (some dx)) ∧ H2 dx = some (exd dx fs) ∧ fs.length ≤ 900 ∧ D.nx σ (upd H2 dx (exd dx ((f, y) :: fs))))
section
variable {X : Cx} {o e : Expr} {to te : TE} {f : Str} {p' pos : Pos} {C fI : Addr} {bmB : List Value} {newId : String}
theorem ps_xst (T : XCls X.K C fI bmB newId) (hno : PySem.W.findIn X.K (.ref C) f = some none) (ho : PE X o to) (he : PE X e te) (hs : swapsWith e (some (.Attribute o f p')) pos.line X.env = pure false := by rfl) : PS X (.Assign [.Attribute o f p'] e pos) (tXst C f to te) :=
  ⟨fun pins s σ H D I h => plainObj_wpAny_Assign_Attribute (thn (he.run pins s σ H _ I h) fun v s1 ⟨y, H1, I1, r1, q1⟩ => thn (ho.run pins s1 σ H1 _ I1 q1) fun u s2 ⟨x, H2, I2, r2, a, ex, q⟩ => by
    subst ex
    obtain rfl : u = Value.ref a := r2
    rcases q with ⟨ea, q⟩ | ⟨dx, fs, ea, ed, hl, q⟩
    · exact xst_new T I2 ea hno r1 fun dx s' n ne J => ⟨σ, _, J, q dx n ne⟩
    · exact xst_old T I2 ea ed hl hno r1 fun s' J => ⟨σ, _, J, q⟩) hs⟩
end
/-- what such an __init__ promises: the attributes, the last one first -/
def spX (C : Addr) (n : Nat) (fs : List V → List (Str × V)) : Sp := fun vs H Q _ => ∃ a ws, vs = .ref a :: ws ∧ ws.length = n ∧ H a = some (exo a C none) ∧ ∀ dx, H dx = none → dx ≠ a → Q .non (upd (upd H dx (exd dx (fs ws))) a (exo a C (some dx)))
section
variable {P : Program} {w : World} {K : PySem.W.Frag} {mg : Str → Option Value} {base : Heap} {CX' : CXT} {C fI f : Addr} {bmB : List Value} {newId : String} {x qual g g2 : Str} {st : Stmt} {fd : FuncData} {k : Nat} {p1 p2 p3 p4 q1 q2 q3 q4 : Pos}
theorem fn_spX1 (T : XCls K C fI bmB newId) (hno : PySem.W.findIn K (.ref C) g = some none) (Fn : Fun K x qual st f fd) (S : FnScope ["self", g] ["self", g] (defScope st))
    (hb : defBody st = [.Assign [.Attribute (.Name "self" p1) g p2] (.Name g p3) p4]) (hs : (g == ("__debug__" : Str)) = false := by decide) (hc : (g == ("__classdict__" : Str)) = false := by decide) :
    FnOk P w K mg base (L2.CX P w) (k + 1) f fd ["self", g] (spX C 1 fun ws => [(g, ws[0]?.getD .non)]) := by
  refine Fn.okX S (fun vs H Q E ⟨a, ws, ev, hl, _⟩ => by rw [ev, List.length_cons, hl]; rfl) fun cdv A outer s H vs Q E hr ⟨a, ws, ev, hl, ea, q⟩ => ?_
  subst ev
  rw [hb]
  have vis : ∀ z ∈ (["self", g] : List Str), Vis (defScope st) z := fun z hz => (S.par z hz).elim .inl fun h => .inr (.inl h)
  match ws, hl with
  | [y], _ => exact ⟨_, pss_one (ps_xst T hno (pe_var (i := 0) rfl (vis _ (.head _)) (by decide) (by decide)) (pe_var (i := 1) rfl (vis _ (.tail _ (.head _))) hs hc)), y, rfl, .ref a, rfl, a, rfl, .inl ⟨ea, fun dx n ne => q dx n ne⟩⟩
theorem fn_spX2 (T : XCls K C fI bmB newId) (hno : PySem.W.findIn K (.ref C) g = some none) (hno2 : PySem.W.findIn K (.ref C) g2 = some none) (Fn : Fun K x qual st f fd) (S : FnScope ["self", g, g2] ["self", g, g2] (defScope st))
    (hb : defBody st = [.Assign [.Attribute (.Name "self" p1) g p2] (.Name g p3) p4, .Assign [.Attribute (.Name "self" q1) g2 q2] (.Name g2 q3) q4]) (hs : (g == ("__debug__" : Str)) = false := by decide) (hc : (g == ("__classdict__" : Str)) = false := by decide)
    (hs2 : (g2 == ("__debug__" : Str)) = false := by decide) (hc2 : (g2 == ("__classdict__" : Str)) = false := by decide) :
    FnOk P w K mg base (L2.CX P w) (k + 1) f fd ["self", g, g2] (spX C 2 fun ws => [(g2, ws[1]?.getD .non), (g, ws[0]?.getD .non)]) := by
  refine Fn.okX S (fun vs H Q E ⟨a, ws, ev, hl, _⟩ => by rw [ev, List.length_cons, hl]; rfl) fun cdv A outer s H vs Q E hr ⟨a, ws, ev, hl, ea, q⟩ => ?_
  subst ev
  rw [hb]
  have vis : ∀ z ∈ (["self", g, g2] : List Str), Vis (defScope st) z := fun z hz => (S.par z hz).elim .inl fun h => .inr (.inl h)
  match ws, hl with
  | [y, y2], _ =>
    refine ⟨_, pss_cons (ps_xst T hno (pe_var (i := 0) rfl (vis _ (.head _)) (by decide) (by decide)) (pe_var (i := 1) rfl (vis _ (.tail _ (.head _))) hs hc))
      (pss_one (ps_xst T hno2 (pe_var (i := 0) rfl (vis _ (.head _)) (by decide) (by decide)) (pe_var (i := 2) rfl (vis _ (.tail _ (.tail _ (.head _)))) hs2 hc2))), ?_⟩
    refine ⟨y, rfl, .ref a, rfl, a, rfl, .inl ⟨ea, fun dx n ne => ⟨y2, rfl, .ref a, rfl, a, rfl, .inr ⟨dx, [(g, y)], upd_same, by rw [upd_ne ne, upd_same], by simp, ?_⟩⟩⟩⟩
    have e1 : upd (upd (upd H dx (exd dx [(g, y)])) a (exo a C (some dx))) dx (exd dx [(g2, y2), (g, y)]) = upd (upd H dx (exd dx [(g2, y2), (g, y)])) a (exo a C (some dx)) := by
      funext b
      by_cases z : b = dx
      · rw [z, upd_same, upd_ne ne, upd_same]
      · rw [upd_ne z]
        by_cases z2 : b = a
        · rw [z2, upd_same, upd_same]
        · rw [upd_ne z2, upd_ne z2, upd_ne z, upd_ne z]
    show Q .non (upd (upd (upd H dx (exd dx [(g, y)])) a (exo a C (some dx))) dx (exd dx [(g2, y2), (g, y)]))
    rw [e1]
    exact q dx n ne
end
end DL

set_option Elab.async false
set_option linter.all false
set_option maxRecDepth 100000
set_option maxHeartbeats 4000000
/-! DX2: an own exception class called with keywords. -/
namespace DL
open PySem PySem.Spec PyProof.Rows L2 Builtin.ObjectAttr
section
variable {M : Model} {prog : Program} {w : World} {A : Around} {E : Value → Shared → Prop} {R : Result → Shared → Prop} {h : Heap} {g : Array GenState} {d : Drawn} {t : Nat} {os : OsState}
variable {nm q : Str} {C N : Addr} {bs bm bmB : List Value} {hdct : Bool} {sn : List Str} {sub : List Value} {ab : Bool} {col : Option Bool} {dd : Option Addr} {k0 k1 k2 k3 k5 : Option Value} {B newId initId : String}
theorem kcheck_new (F : ExcBaseFacts B newId initId bmB) (hT : ∀ X : String, bm.contains (.type X) = bmB.contains (.type X)) {rest : List Value} {kw : List (Str × Value)} {Q : Unit → Shared → Prop}
    (hC : h.get? C = some (excClassObj nm q C N bs bm hdct sn sub ab col dd k0 k1 k2 k3 k5 newId)) (hq : Q () ⟨h, g, d, t, os⟩) : wpAny M A (checkBuiltinCall newId ⟨.ref C :: rest, kw⟩) Q E ⟨h, g, d, t, os⟩ := by
  have c1 : (Value.ref C :: bm).contains (.type B) = true := by rw [List.contains_cons, hT, F.hasB, Bool.or_true]
  have c2 := F.noStar
  simp only [checkBuiltinCall, F.newKind, F.newSplit, F.newRow]
  repeat (first | refine wpAny_loadPart_at hC ?_ | (refine wpAny_isSubtype_exc hC ?_; rw [c1]) | refine wpAny_staticBase_exc hC ?_ | refine wpAny_madeBy_exc hC ?_ | simp only [bne_self_eq_false, Bool.false_eq_true, if_false] | wp_step)
  exact hq
theorem knew (F : ExcBaseFacts B newId initId bmB) (hT : ∀ X : String, bm.contains (.type X) = bmB.contains (.type X)) {rest : List Value} {kw : List (Str × Value)} (hC : h.get? C = some (excClassObj nm q C N bs bm hdct sn sub ab col dd k0 k1 k2 k3 k5 newId))
    (hq : R (.ok (.ret (.ref (h.objs.size + 1)))) ⟨(h.push (PySem.W.kdv_tup rest)).push (PySem.HandSPX.excO C h.objs.size), g, d, t, os⟩) (hrest : rest.length ≤ sizeLine) :
    codeAny (model prog w) A (.builtin newId ⟨.ref C :: rest, kw⟩) R ⟨h, g, d, t, os⟩ := by
  have hends := F.ends
  have c1 : (Value.ref C :: bm).contains (.type B) = true := by rw [List.contains_cons, hT, F.hasB, Bool.or_true]
  have c2 : (Value.ref C :: bm).contains (.type "AttributeError") = false := by rw [List.contains_cons, hT, F.noAttr]; rfl
  have c3 : (Value.ref C :: bm).contains (.type "NameError") = false := by rw [List.contains_cons, hT, F.noName]; rfl
  refine codeAny_builtinAt F.entry ?_
  unfold Builtin.«BaseException.__new__»
  refine PySem.wpAt_bind ?_
  show PySem.wpAt _ _ _ (stack >>= _) _ _ _
  refine PySem.wpAt_bind (PySem.wpAt_stack fun p below => PySem.wpAt_of_wpAny ?_)
  wp_walk
  refine PySem.wpAt_of_wpAny ?_
  rw [F.owner]
  repeat (first | with_reducible refine wpAny_madeHere_exc F.canon hC ?_ | with_reducible refine wpAny_loadPart_at hC ?_ | (with_reducible refine wpAny_isSubtype_exc hC ?_; first | rw [c1] | rw [c2] | rw [c3]) | wp_step)
  show R _ _
  rw [Heap.size_push]
  exact hq
theorem ktcall (F : ExcBaseFacts B newId initId bmB) (hT : ∀ X : String, bm.contains (.type X) = bmB.contains (.type X)) {rest : List Value} {kw : List (Str × Value)} {fI : Addr} {Q : Fin → Shared → Prop}
    (hC : h.get? C = some (excClassObj nm q C N bs bm hdct sn sub ab col dd k0 k1 k2 k3 k5 newId)) (hi : PySem.W.Looks (model prog w) h (typeLookup (.ref C) "__init__") (some (.ref fI)))
    (hb : ∀ self, PySem.W.Looks (model prog w) h (bindSpecial (.ref fI) self) (.ref fI, [self])) (hrest : rest.length ≤ sizeLine)
    (hq : codeAny (model prog w) A (.call (.ref fI) ⟨.ref (h.objs.size + 1) :: rest, kw⟩) (fun r s' => match r with | .ok (.ret v) => v = .none ∧ Q (.done (.ret (.ref (h.objs.size + 1)))) s' | .ok _ => False | .error e => E e s')
      ⟨(h.push (PySem.W.kdv_tup rest)).push (PySem.HandSPX.excO C h.objs.size), g, d, t, os⟩) :
    wpAny (model prog w) A (Builtin.«type.__call__» ⟨.ref C :: rest, kw⟩) Q E ⟨h, g, d, t, os⟩ := by
  repeat (first | with_reducible refine wpAny_loadPart_at hC ?_ | with_reducible refine wpAny_madeBy_exc hC ?_ | wp_step)
  refine codeAny_call_builtin_code (Code.quiet_builtin _ F.quiet) (kcheck_new F hT hC (knew F hT hC ?_ hrest))
  show wpAny _ _ _ _ _ _
  have k : ∀ b o, h.get? b = some o → ((h.push (PySem.W.kdv_tup rest)).push (PySem.HandSPX.excO C h.objs.size)).get? b = some o := fun b o e => Heap.get?_push_of_some _ (Heap.get?_push_of_some _ e)
  have k1 := k _ _ hC
  have k2 : ((h.push (PySem.W.kdv_tup rest)).push (PySem.HandSPX.excO C h.objs.size)).get? (h.objs.size + 1) = some (PySem.HandSPX.excO C h.objs.size) := by heap_get
  have k3 : (Value.ref C :: bm).contains (.ref C) = true := by simp
  have i1 := hi.keeps k
  have b1 := (hb (.ref (h.objs.size + 1))).keeps k
  unfold isInstance
  repeat (first | with_reducible refine wpAny_loadPart_at k2 ?_ | (with_reducible refine wpAny_isSubtype_exc k1 ?_; rw [k3]) | wp_step)
  show wpAny _ _ (typeLookup (.ref C) _) _ _ _
  refine i1.at (wpAny_holding (wpAny_bind (b1.at (wpAny_bind (wpAny_call (codeAny_mono hq fun r s' z => ?_))))))
  rcases r with e | (v | _ | _ | _) <;> first | exact z | exact z.elim | skip
  obtain ⟨rfl, z⟩ := z
  first
    | exact wpAny_pure (wpAny_pure z)
    | (wp_walk; exact z)
theorem kcheck_call {rest : List Value} {kw : List (Str × Value)} {Q : Unit → Shared → Prop} (hC : h.get? C = some (excClassObj nm q C N bs bm hdct sn sub ab col dd k0 k1 k2 k3 k5 newId))
    (hq : Q () ⟨h, g, d, t, os⟩) : wpAny M A (checkBuiltinCall "type.__call__" ⟨.ref C :: rest, kw⟩) Q E ⟨h, g, d, t, os⟩ := by
  have f3 := tc_sub
  have hT : (⟨h, g, d, t, os⟩ : Shared).TypeIs (.ref C) "type" := ⟨_, hC, rfl⟩
  simp only [checkBuiltinCall, tc_kind, tc_split]
  repeat (any_goals (first | assumption | with_reducible refine wpAny_loadPart_at hC ?_ | with_reducible refine wpAny_onRaise ?_ | with_reducible refine wpAny_map ?_ | wp_step))
theorem kcall (F : ExcBaseFacts B newId initId bmB) (hT : ∀ X : String, bm.contains (.type X) = bmB.contains (.type X)) {rest : List Value} {kw : List (Str × Value)} {fI : Addr}
    (hC : h.get? C = some (excClassObj nm q C N bs bm hdct sn sub ab col dd k0 k1 k2 k3 k5 newId)) (hi : PySem.W.Looks (model prog w) h (typeLookup (.ref C) "__init__") (some (.ref fI)))
    (hb : ∀ self, PySem.W.Looks (model prog w) h (bindSpecial (.ref fI) self) (.ref fI, [self])) (hrest : rest.length ≤ sizeLine)
    (hq : codeAny (model prog w) (A.under (.builtin "type.__call__" ⟨.ref C :: rest, kw⟩)) (.call (.ref fI) ⟨.ref (h.objs.size + 1) :: rest, kw⟩) (PySem.W.InitBack (h.objs.size + 1) R)
      ⟨(h.push (PySem.W.kdv_tup rest)).push (PySem.HandSPX.excO C h.objs.size), g, d, t, os⟩) : codeAny (model prog w) A (.call (.ref C) ⟨rest, kw⟩) R ⟨h, g, d, t, os⟩ := by
  have f1 := tc_lookup
  have f2 := tc_bind (.ref C)
  have hTy : (⟨h, g, d, t, os⟩ : Shared).TypeIs (.ref C) "type" := ⟨_, hC, rfl⟩
  refine codeAny_of_tree ?_
  show wpAny _ _ (callAny (.ref C) _) _ _ _
  repeat (any_goals (first | assumption | with_reducible refine wpAny_loadPart_at hC ?_ | wp_step))
  refine ⟨rfl, codeAny_call_builtin_at (Code.quiet_builtin _ (by decide +kernel)) entry_typeCall (kcheck_call hC (ktcall F hT hC hi hb hrest (codeAny_mono hq fun r s' z => ?_)))⟩
  rcases r with e | (v | _ | _ | _) <;> exact z
end
end DL

set_option Elab.async false
set_option linter.all false
set_option maxRecDepth 100000
set_option maxHeartbeats 4000000
/-! DX3: own exceptions made as values, positional and by keywords; raised; their attributes read. -/
namespace DL
open PySem PySem.Spec PyProof.Rows L2
section
variable {X : Cx} {pins : List (Addr × Obj)} {σ : L2.St} {H : Hp} {s : Shared} {a C fI d : Addr} {fs : List (Str × V)} {bmB : List Value} {newId : String}
theorem exv_ok {P : Program} {w : World} {H : Hp} {h : Heap} {oe : Obj} {vs : Array Value} (e : h.get? a = some oe) (h1 : oe.cls = .ref C) (h2 : oe.dict = some d) (h3 : oe.data = .fields vs) : ObjOk P w H h a (exv a C d) :=
  ⟨⟨oe, vs, e, h1, h2, h3⟩, ⟨_, e⟩, fun g1 g2 z k => by
    obtain ⟨oe', vs', q, r⟩ := z
    exact ⟨oe', vs', k _ q, r⟩⟩
/-- a made exception is looked at as a value -/
theorem Inv.seen (I : Inv X pins σ H s) (ea : H a = some (exo a C (some d))) (ed : H d = some (exd d fs)) (ne : d ≠ a) : Inv X pins σ (upd (upd H a (exv a C d)) d (.xd fs)) s := by
  obtain ⟨t1, ho⟩ := exo_at I.hok ea
  obtain ⟨mA, hns, rel⟩ := exd_at I.hok ed
  obtain ⟨h, g, dr, t, os⟩ := s
  have J : Inv X pins σ (upd H a (exv a C d)) ⟨h, g, dr, t, os⟩ := I.write (t' := t) (x := a) (e := a) (o := exv a C d) (h' := h) (by rw [ea]; exact True.intro) (.inl rfl) (fun b u _ z => z) ⟨_, ho⟩ (exv_ok ho rfl rfl rfl)
  have ed' : upd H a (exv a C d) d = some (exd d fs) := by rw [upd_ne ne]; exact ed
  have hd : ∃ u, h.get? d = some u := by obtain ⟨o, _, _, e, _⟩ := hns; exact ⟨o, e⟩
  exact J.write (t' := t) (x := d) (e := d) (o := .xd fs) (h' := h) (by rw [ed']; exact True.intro) (.inl rfl) (fun b u _ z => z) hd ⟨mA, hns, rel⟩
theorem run_xmk {CX' : CXT} {k n : Nat} {fd : FuncData} {ps ks : List Str} {sp : Sp} {Q : VK} {us ws : List Value} {vs zs : List V} {gg : List Value → List Value → List Value} {gV : List V → List V → List V} (T : XCls X.K C fI bmB newId) (Fn : FnOk X.prog X.w X.K X.mg X.base CX' k fI fd ps sp) (hr : Room (k + 1) X.A)
    (hb : KBn X.K fd ps (n + 1) ks gg gV) (hx : Passes CX' X (fun _ _ _ => False)) (I : Inv X pins σ H s) (r : Vals vs us) (rz : Vals zs ws) (l1 : vs.length = n) (l2 : zs.length = ks.length) (hn : n ≤ 1000)
    (h : ∀ a, H a = none → sp (gV (.ref a :: vs) zs) (upd H a (exo a C none)) (fun v H2 => v = .non ∧ ∃ (d : Addr) (fs : List (Str × V)), H2 a = some (exo a C (some d)) ∧ H2 d = some (exd d fs) ∧ d ≠ a ∧ Q (.ref a) (upd (upd H2 a (exv a C d)) d (.xd fs))) (fun _ _ _ => False)) :
    wpAny (model X.prog X.w) X.A (call (.ref C) us (ks.zip ws)) (EP X pins σ Q) X.xe s := by
  obtain ⟨B, initId, FB, SF⟩ := T.b.base
  obtain ⟨nm, N', qn, bs, bm, hdct, sn, sub, ab, col, dd, k0, k1, k2, k3, k5, hC, hT⟩ := PySem.W.excInit_of I.kIn T.q
  obtain ⟨hp, g, dr, tk, os⟩ := s
  have hsz : hp.objs.size ≤ hp.objs.size + 1 := Nat.le_succ _
  have hq := h (hp.objs.size + 1) (I.hok.fresh hsz)
  have kk : ∀ b o, hp.get? b = some o → ((hp.push (PySem.W.kdv_tup us)).push (PySem.HandSPX.excO C hp.objs.size)).get? b = some o := fun b o e => Heap.get?_push_of_some _ (Heap.get?_push_of_some _ e)
  have hget : ((hp.push (PySem.W.kdv_tup us)).push (PySem.HandSPX.excO C hp.objs.size)).get? (hp.objs.size + 1) = some (PySem.HandSPX.excO C hp.objs.size) := by heap_get
  have I2 : Inv X pins σ (upd H (hp.objs.size + 1) (exo (hp.objs.size + 1) C none)) ⟨(hp.push (PySem.W.kdv_tup us)).push (PySem.HandSPX.excO C hp.objs.size), g, dr, tk, os⟩ := I.laid (t' := tk) (a := hp.objs.size + 1) (o := exo (hp.objs.size + 1) C none) kk hsz (exo_ok hget)
  have r1 : Vals (V.ref (hp.objs.size + 1) :: vs) (Value.ref (hp.objs.size + 1) :: us) := .cons rfl r
  have r2 := hb.rel r1 rz
  have n1 : (Value.ref (hp.objs.size + 1) :: us).length = n + 1 := by rw [List.length_cons, ← r.length, l1]
  have hus : us.length ≤ sizeLine := by rw [← r.length, l1, sizeLine_eq]; omega
  refine wpAny_call (kcall FB hT hC (PySem.W.looks_findIn I.kIn T.iC) (fun self => PySem.W.bind_fn I.kIn self T.tI) hus (codeAny_mono (Fn.run _ X.stack _ _ ⟨Value.ref (hp.objs.size + 1) :: us, ks.zip ws⟩ (gg (Value.ref (hp.objs.size + 1) :: us) ws) _ _ (fun _ _ _ => False) (hr.make C us (ks.zip ws)) (I2.env0.make C us (ks.zip ws))
    (hb.to _ (Value.ref (hp.objs.size + 1) :: us) ws I2.kIn n1 (rz.length.symm.trans l2)) r2 hq) fun rs s' hq' => ?_))
  match rs, hq' with
  | .error er, hq' => exact hx pins σ _ _ er s' I2 hq'
  | .ok (.ret u), hq' =>
    obtain ⟨v, H2, I3, rv, ev, d, fs, ea, ed, ne, q2⟩ := I2.after hq'
    subst ev
    exact ⟨rv, V.ref (hp.objs.size + 1), _, Inv.seen I3 ea ed ne, rfl, q2⟩
  | .ok .next, hq' => exact hq'.elim
  | .ok .brk, hq' => exact hq'.elim
  | .ok .cont, hq' => exact hq'.elim
/-- the positional binding as one with no keywords -/
theorem kbn_pos {K : PySem.W.Frag} {fd : FuncData} {ps : List Str} {n : Nat} (hb : Binds K fd ps []) (hl : ps.length = n) : KBn K fd ps n [] (fun us _ => us) (fun vs _ => vs) :=
  ⟨fun s us ws X l1 l2 => by
    have q := hb s us X (by rw [List.append_nil, l1, hl])
    rw [List.append_nil] at q
    exact q, fun r _ => r⟩
def tXmk (X : Cx) (C : Addr) (n m : Nat) (sp : Sp) (gV : List V → List V → List V) (t tk : TA) : TE := fun σ H Q => t σ H fun vs H1 => tk σ H1 fun zs H2 => vs.length = n ∧ zs.length = m ∧ ∀ a, H2 a = none →
  sp (gV (.ref a :: vs) zs) (upd H2 a (exo a C none)) (fun v H3 => v = .non ∧ ∃ (d : Addr) (fs : List (Str × V)), H3 a = some (exo a C (some d)) ∧ H3 d = some (exd d fs) ∧ d ≠ a ∧ Q (.ref a) (upd (upd H3 a (exv a C d)) d (.xd fs))) (fun _ _ _ => False)
variable {CX' : CXT} {k n : Nat} {fd : FuncData} {ps ks : List Str} {sp : Sp} {x : Str} {p pos : Pos} {e : Expr} {es : List Expr} {kws : List Keyword} {t tk : TA} {gg : List Value → List Value → List Value} {gV : List V → List V → List V}
theorem pe_xmk (T : XCls X.K C fI bmB newId) (Fn : FnOk X.prog X.w X.K X.mg X.base CX' k fI fd ps sp) (hr : Room (k + 1) X.A) (hb : KBn X.K fd ps (n + 1) [] gg gV) (hn : n ≤ 1000) (hx : Passes CX' X (fun _ _ _ => False)) (hg : Gl X x) (hm : X.mg x = some (.ref C)) (ha : PA X (e :: es) t)
    (hdb : (x == ("__debug__" : Str)) = false := by decide) (he : starEach (e :: es) X.env = (false, eval e X.env) :: starEach es X.env := by rfl) (hpl : (backTo pos (starEach es X.env)).any (·.1) = false := by rfl) :
    PE X (.Call (.Name x p) (e :: es) [] pos) (tXmk X C n 0 sp gV t tNil) :=
  ⟨fun pins s σ H Q I h => wpAny_Call_Name_kw (ld_glob I hg hm (PySem.W.callWith_K (h₀ := X.base) I.ok.mod.kin T.kC (thn (ha.run pos pins s σ H _ I h) fun us s1 ⟨vs, H1, I1, r, q⟩ => ⟨I1.kIn, by
    obtain ⟨l1, l2, q⟩ := q
    exact run_xmk (ks := []) (ws := []) (zs := []) T Fn hr hb hx I1 r .nil l1 rfl hn q⟩) he hpl) hdb)⟩
theorem pe_xmkK (T : XCls X.K C fI bmB newId) (Fn : FnOk X.prog X.w X.K X.mg X.base CX' k fI fd ps sp) (hr : Room (k + 1) X.A) (hb : KBn X.K fd ps 1 ks gg gV) (hx : Passes CX' X (fun _ _ _ => False)) (hg : Gl X x) (hm : X.mg x = some (.ref C)) (hkw : PK X kws tk)
    (hall : (backToKw pos (keywordEach kws X.env)).all (·.1.isSome) = true := by rfl) (hks : (backToKw pos (keywordEach kws X.env)).filterMap (·.1) = ks := by rfl) (hdb : (x == ("__debug__" : Str)) = false := by decide)
    (hpl : ((backTo pos (starEach [] X.env)).any (·.1) || (backToKw pos (keywordEach kws X.env)).any (·.1.isNone)) = false := by rfl) :
    PE X (.Call (.Name x p) [] kws pos) (tXmk X C 0 ks.length sp gV tNil tk) :=
  ⟨fun pins s σ H Q I h => wpAny_Call_Name_kw (ld_glob I hg hm (PySem.W.callWith_KW0 (h₀ := X.base) I.ok.mod.kin T.kC hall (thn (hkw.run pos pins s σ H _ I h) fun ws s2 ⟨zs, H2, I2, rz, q⟩ => ⟨I2.kIn, by
    obtain ⟨l1, l2, q⟩ := q
    rw [hks]
    exact run_xmk (us := []) (vs := []) T Fn hr hb hx I2 .nil rz rfl l2 (by decide) q⟩) hpl) hdb)⟩
end

/-! ### .. over data -/
section
variable {X : Cx} {c : Fc} {F H : Hp} {σ : L2.St} {ρ : Sls} {a e : Expr} {fa fe : M D} {es : List Expr} {fs : M (List D)} {pos p p1 p2 : Pos} {cn f : Str} {C fI : Addr} {bmB : List Value} {newId : String} {k n : Nat} {fd : FuncData} {ps ks : List Str} {kws : List Keyword} {π : List Nat}
/-- attributes by the arguments, for data and for values alike -/
structure Mkf (n : Nat) (fV : List V → List (Str × V)) (fD : List D → List (Str × D)) : Prop where
  go : ∀ {K : PySem.W.Frag} {mg : Str → Option Value} {F : Hp} {vs : List V} {ds : List D}, vs.length = n → Dts K mg F vs ds → (fV vs).map (·.1) = (fD ds).map (·.1) ∧ Dts K mg F ((fV vs).map (·.2)) ((fD ds).map (·.2))
def fD1 (g : Str) (ds : List D) : List (Str × D) := [(g, ds[0]?.getD .non)]
def fD2 (g g2 : Str) (ds : List D) : List (Str × D) := [(g2, ds[1]?.getD .non), (g, ds[0]?.getD .non)]
theorem mkf1 {g : Str} : Mkf 1 (fun ws => [(g, ws[0]?.getD .non)]) (fD1 g) := ⟨fun {K mg F vs ds} hl t => by
  match vs, ds, hl, t with
  | [v], [d], _, .cons h .nil => exact ⟨rfl, .cons h .nil⟩⟩
theorem mkf2 {g g2 : Str} : Mkf 2 (fun ws => [(g2, ws[1]?.getD .non), (g, ws[0]?.getD .non)]) (fD2 g g2) := ⟨fun {K mg F vs ds} hl t => by
  match vs, ds, hl, t with
  | [v, v'], [d, d'], _, .cons h (.cons h' .nil) => exact ⟨rfl, .cons h' (.cons h .nil)⟩⟩
def M.xmk (n : Nat) (cn : Str) (fD : List D → List (Str × D)) (ds : List D) : M D := M.grd (ds.length = n) (M.ret (.ex cn (fD ds)))
theorem xmk_end {fV : List V → List (Str × V)} {fD : List D → List (Str × D)} {vs : List V} {ds : List D} {Q : VK} {E : XK} (K : Mkf n fV fD) (m : c.mg cn = some (.ref C)) (rr : R c F H σ ρ) (t : c.Dts F vs ds) (hl : vs.length = n) (h : Pst c σ F (M.ret (D.ex cn (fD ds)) ρ) Q) (a : Addr) (ha : H a = none) :
    spX C n fV (.ref a :: vs) (upd H a (exo a C none)) (fun v H2 => v = .non ∧ ∃ (d : Addr) (fs : List (Str × V)), H2 a = some (exo a C (some d)) ∧ H2 d = some (exd d fs) ∧ d ≠ a ∧ Q (.ref a) (upd (upd H2 a (exv a C d)) d (.xd fs))) E := by
  refine ⟨a, vs, rfl, hl, upd_same, fun dx hd ne => ⟨rfl, dx, fV vs, upd_same, by rw [upd_ne ne, upd_same], ne, ?_⟩⟩
  rw [upd_ne ne] at hd
  have e1 : upd (upd (upd (upd (upd H a (exo a C none)) dx (exd dx (fV vs))) a (exo a C (some dx))) a (exv a C dx)) dx (.xd (fV vs)) = upd (upd H a (exv a C dx)) dx (.xd (fV vs)) := by
    funext b
    by_cases z : b = dx
    · rw [z, upd_same, upd_same]
    · rw [upd_ne z, upd_ne z]
      by_cases z2 : b = a
      · rw [z2, upd_same, upd_same]
      · rw [upd_ne z2, upd_ne z2, upd_ne z2, upd_ne z, upd_ne z2]
  rw [e1]
  have x1 : Ext c.T F H (upd F a (exv a C dx)) (upd H a (exv a C dx)) := .new rr.sub ha
  have hd1 : upd H a (exv a C dx) dx = none := by rw [upd_ne ne]; exact hd
  have x2 : Ext c.T (upd F a (exv a C dx)) (upd H a (exv a C dx)) (upd (upd F a (exv a C dx)) dx (.xd (fV vs))) (upd (upd H a (exv a C dx)) dx (.xd (fV vs))) := .new x1.sub hd1
  have x3 := x1.trans x2
  obtain ⟨k1, k2⟩ := K.go hl t
  exact h _ _ _ (rr.ext x3) (x3.le rr.sub) (.ex m (by rw [upd_ne (Ne.symm ne), upd_same]) upd_same k1 (k2.le (x3.le rr.sub)))
theorem de_xmk {fV : List V → List (Str × V)} {fD : List D → List (Str × D)} (fx : Fit X c) (K : Mkf n fV fD) (T : XCls X.K C fI bmB newId) (Fn : FnOk X.prog X.w X.K X.mg X.base (L2.CX X.prog X.w) k fI fd ps (spX C n fV)) (hr : Room (k + 1) X.A) (hb : Binds X.K fd ps []) (hpn : ps.length = n + 1) (hn : n ≤ 1000) (hg : Gl X cn) (hm : X.mg cn = some (.ref C))
    (ha : DA X c (a :: es) fs) (hdb : (cn == ("__debug__" : Str)) = false := by decide) (he : starEach (a :: es) X.env = (false, eval a X.env) :: starEach es X.env := by rfl) (hpl : (backTo pos (starEach es X.env)).any (·.1) = false := by rfl) :
    DE X c (.Call (.Name cn p) (a :: es) [] pos) (fs.bind (M.xmk n cn fD)) :=
  PEw (pe_xmk T Fn hr (kbn_pos hb hpn) hn passF hg hm ha hdb he hpl) fun σ H Q ⟨F, ρ, rr, h⟩ => ⟨F, ρ, rr, (Pst.bindA h).mono (.refl _) fun vs H1 ⟨F1, ρ1, ds, r1, l1, t1, h1⟩ => by
    obtain ⟨z, h1⟩ := Pst.grd (b := ds.length = n) h1
    rw [fx.mg] at hm
    exact ⟨t1.length.trans z, rfl, fun a ha => xmk_end K hm r1 t1 (t1.length.trans z) h1 a ha⟩⟩
theorem de_xmkK {fV : List V → List (Str × V)} {fD : List D → List (Str × D)} (fx : Fit X c) (K : Mkf n fV fD) (T : XCls X.K C fI bmB newId) (Fn : FnOk X.prog X.w X.K X.mg X.base (L2.CX X.prog X.w) k fI fd ps (spX C n fV)) (hr : Room (k + 1) X.A) (hb : KBn X.K fd ps 1 ks (fun us ws => us ++ pick π ws) (fun vs zs => vs ++ pick π zs)) (hg : Gl X cn) (hm : X.mg cn = some (.ref C))
    (ha : DK X c kws fs) (hall : (backToKw pos (keywordEach kws X.env)).all (·.1.isSome) = true := by rfl) (hks : (backToKw pos (keywordEach kws X.env)).filterMap (·.1) = ks := by rfl) (hdb : (cn == ("__debug__" : Str)) = false := by decide)
    (hpl : ((backTo pos (starEach [] X.env)).any (·.1) || (backToKw pos (keywordEach kws X.env)).any (·.1.isNone)) = false := by rfl) :
    DE X c (.Call (.Name cn p) [] kws pos) (fs.bind fun ds => M.grd (ds.length = ks.length) (M.xmk n cn fD (pick π ds))) :=
  PEw (pe_xmkK T Fn hr hb passF hg hm ha hall hks hdb hpl) fun σ H Q ⟨F, ρ, rr, h⟩ => by
    show tAs c fs σ H _
    refine ⟨F, ρ, rr, (Pst.bindA h).mono (.refl _) fun vs H1 ⟨F1, ρ1, ds, r1, l1, t1, h1⟩ => ?_⟩
    obtain ⟨z, h1⟩ := Pst.grd (b := ds.length = ks.length) h1
    obtain ⟨z2, h1⟩ := Pst.grd (b := (pick π ds).length = n) h1
    rw [fx.mg] at hm
    have t2 := pick_dts t1 π
    exact ⟨rfl, t1.length.trans z, fun a ha => xmk_end K hm r1 t2 (t2.length.trans z2) h1 a ha⟩
end
end DL

set_option Elab.async false
set_option linter.all false
set_option maxRecDepth 100000
set_option maxHeartbeats 4000000
/-! DX4: attributes of exceptions, exceptions raised. -/
namespace DL
open PySem PySem.Spec PyProof.Rows L2
section
variable {X : Cx} {c : Fc} {F H : Hp} {σ : L2.St} {ρ : Sls} {a e : Expr} {fa fe : M D} {es : List Expr} {fs : M (List D)} {pos p p1 p2 : Pos} {cn f : Str} {C fI : Addr} {bmB : List Value} {newId : String} {k n : Nat} {fd : FuncData} {ps ks : List Str}
/-- e.f of a tracked exception -/
def tXv (K : PySem.W.Frag) (te : TE) (f : Str) : TE := fun σ H Q => te σ H fun x H1 => ∃ (a C d : Addr) (fs : List (Str × V)) (v : V), x = .ref a ∧ H1 a = some (exv a C d) ∧ H1 d = some (.xd fs) ∧ XfC K C ∧ PySem.W.findIn K (.ref C) f = some none ∧ fs.lookup f = some v ∧ Q v H1
theorem pe_xv {te : TE} (he : PE X e te) (hb : attributeBase e f X.env (eval e X.env) = eval e X.env := by rfl) : PE X (.Attribute e f pos) (tXv X.K te f) :=
  ⟨fun pins s σ H Q I h => attr_of hb (thn (he.run pins s σ H _ I h) fun u s1 ⟨x, H1, I1, rx, a, C, dd, fs, v, ex, ea, ed, T, hno, l, q⟩ => by
    subst ex
    obtain rfl : u = Value.ref a := rx
    have hx : ObjOk X.prog X.w H1 s1.heap a (.ext fun h => ∃ (oe : Obj) (vs : Array Value), h.get? a = some oe ∧ oe.cls = .ref C ∧ oe.dict = some dd ∧ oe.data = .fields vs) := I1.hok a _ ea
    obtain ⟨oe, vs, ha, h1, h2, h3⟩ := hx.1
    have hd : ObjOk X.prog X.w H1 s1.heap dd (.xd fs) := I1.hok dd _ ed
    obtain ⟨mA, hns, hr⟩ := hd
    obtain ⟨od, ho, hl⟩ := lookIn_ns hns
    obtain ⟨u, hu, ru⟩ := RelO.some_of (v := v) (o := mA f) (by rw [← l]; exact hr f)
    have J : PySem.W.InstAt s1.heap a oe C (some od) := ⟨ha, h1, by unfold PySem.W.notCls; rw [h3] <;> rfl, by rw [h2]; exact ho⟩
    exact HandSPX.exc_get I1.kIn J T.ga T.gg T.exC (PySem.W.findObj_own T.hdC hno rfl (by rw [hl, hu])) (handed_of ru) ⟨v, H1, I1.tok _, ru, q⟩)⟩
/-- the classes whose attribute f may be read -/
structure XTab (K : PySem.W.Frag) (mg : Str → Option Value) (l : List Str) (f : Str) : Prop where
  go : ∀ cn ∈ l, ∀ C : Addr, mg cn = some (.ref C) → XfC K C ∧ PySem.W.findIn K (.ref C) f = some none
def M.xf (l : List Str) (fa : M D) (f : Str) : M D := fa.bind fun d => match d with
  | .ex cn fs => if cn ∈ l then M.of (fs.lookup f) else M.no
  | _ => M.no
theorem de_xf {l : List Str} (fx : Fit X c) (T : XTab X.K X.mg l f) (ha : DE X c a fa) (hb : attributeBase a f X.env (eval a X.env) = eval a X.env := by rfl) : DE X c (.Attribute a f pos) (M.xf l fa f) :=
  PEw (pe_xv ha hb) fun σ H Q ⟨F, ρ, rr, h⟩ => ⟨F, ρ, rr, (Pst.bind h).mono (.refl _) fun v H1 ⟨F1, ρ1, d, r1, l1, t1, h1⟩ => by
    cases t1 with
    | @ex a C d cn fs ds m h hd k t =>
      dsimp only at h1
      by_cases z : cn ∈ l
      · rw [if_pos z] at h1
        obtain ⟨w, ew, h1⟩ := Pst.of (o := ds.lookup f) h1
        obtain ⟨u, eu, du⟩ := Dts.lookup k t ew
        rw [fx.mg] at T
        obtain ⟨T1, T2⟩ := T.go cn z C m
        exact ⟨a, C, d, fs, u, rfl, r1.sub _ _ h, r1.sub _ _ hd, T1, T2, eu, h1.ret r1 du⟩
      · rw [if_neg z] at h1; exact False.elim h1
    | @ex0 a C cn m h =>
      dsimp only at h1
      by_cases z : cn ∈ l
      · rw [if_pos z] at h1; exact False.elim h1
      · rw [if_neg z] at h1; exact False.elim h1
    | _ => exact False.elim h1⟩

/-! ### raise C(e, ..) -/
theorem pmk_x {t : TA} {fV : List V → List (Str × V)} {x : Str} (T : XCls X.K C fI bmB newId) (Fn : FnOk X.prog X.w X.K X.mg X.base (L2.CX X.prog X.w) k fI fd ps (spX C n fV)) (hr : Room (k + 1) X.A) (hb : Binds X.K fd ps []) (hpn : ps.length = n + 1) (hn : n ≤ 1000) (hg : Gl X x) (hm : X.mg x = some (.ref C)) (ha : PA X (e :: es) t)
    (hdb : (x == ("__debug__" : Str)) = false := by decide) (he : starEach (e :: es) X.env = (false, eval e X.env) :: starEach es X.env := by rfl) (hpl : (backTo pos (starEach es X.env)).any (·.1) = false := by rfl) (ty : PySem.W.typeIn X.K (.ref C) = some (.type "type")) :
    PMk X (.Call (.Name x p) (e :: es) [] pos) (fun σ H Q => t σ H fun vs H1 => vs.length = n ∧ ∀ dx, H1 dx = none → Q (.ref C) (some dx) (upd H1 dx (.xd (fV vs)))) := fun pins s σ H Q I h => by
  refine wpAny_Call_Name_kw (ld_glob I hg hm (PySem.W.callWith_K (h₀ := X.base) I.ok.mod.kin T.kC (thn (ha.run pos pins s σ H _ I h) fun us s1 ⟨vs, H1, I1, r, l1, q⟩ => ⟨I1.kIn, ?_⟩) he hpl) hdb)
  show wpAny _ _ (call (.ref C) us) _ _ _
  obtain ⟨B, initId, FB, SF⟩ := T.b.base
  obtain ⟨nm, N', qn, bs, bm, hdct, sn, sub, ab, col, dd, k0, k1, k2, k3, k5, hC, hT⟩ := PySem.W.excInit_of I1.kIn T.q
  obtain ⟨hp, g, dr, tk, os⟩ := s1
  have hsz : hp.objs.size ≤ hp.objs.size + 1 := Nat.le_succ _
  have hna : H1 (hp.objs.size + 1) = none := I1.hok.fresh hsz
  have kk : ∀ b o, hp.get? b = some o → ((hp.push (PySem.W.kdv_tup us)).push (PySem.HandSPX.excO C hp.objs.size)).get? b = some o := fun b o e => Heap.get?_push_of_some _ (Heap.get?_push_of_some _ e)
  have hget : ((hp.push (PySem.W.kdv_tup us)).push (PySem.HandSPX.excO C hp.objs.size)).get? (hp.objs.size + 1) = some (PySem.HandSPX.excO C hp.objs.size) := by heap_get
  have I2 : Inv X pins σ (upd H1 (hp.objs.size + 1) (exo (hp.objs.size + 1) C none)) ⟨(hp.push (PySem.W.kdv_tup us)).push (PySem.HandSPX.excO C hp.objs.size), g, dr, tk, os⟩ := I1.laid (t' := tk) (a := hp.objs.size + 1) (o := exo (hp.objs.size + 1) C none) kk hsz (exo_ok hget)
  have r2 : Vals (V.ref (hp.objs.size + 1) :: vs) (Value.ref (hp.objs.size + 1) :: us) := .cons rfl r
  have hl : (Value.ref (hp.objs.size + 1) :: us).length = ps.length := by rw [List.length_cons, ← r.length, l1, hpn]
  have hus : us.length ≤ sizeLine := by rw [← r.length, l1, sizeLine_eq]; omega
  have hbi := hb ⟨(hp.push (PySem.W.kdv_tup us)).push (PySem.HandSPX.excO C hp.objs.size), g, dr, tk, os⟩ (Value.ref (hp.objs.size + 1) :: us) I2.kIn (by rw [List.append_nil]; exact hl)
  rw [List.append_nil] at hbi
  have hsp : spX C n fV (V.ref (hp.objs.size + 1) :: vs) (upd H1 (hp.objs.size + 1) (exo (hp.objs.size + 1) C none)) (fun v H2 => v = .non ∧ ∃ dx, H1 dx = none ∧ dx ≠ hp.objs.size + 1 ∧ H2 = upd (upd (upd H1 (hp.objs.size + 1) (exo (hp.objs.size + 1) C none)) dx (exd dx (fV vs))) (hp.objs.size + 1) (exo (hp.objs.size + 1) C (some dx))) (fun _ _ _ => False) :=
    ⟨_, vs, rfl, l1, upd_same, fun dx hd ne => ⟨rfl, dx, by rw [upd_ne ne] at hd; exact hd, ne, rfl⟩⟩
  refine wpAny_call (PySem.HandSPX.call_own FB hT hC (PySem.W.looks_findIn I1.kIn T.iC) (fun self => PySem.W.bind_fn I1.kIn self T.tI) hus (codeAny_mono (Fn.run _ X.stack _ _ ⟨Value.ref (hp.objs.size + 1) :: us, []⟩ (Value.ref (hp.objs.size + 1) :: us) _ _ (fun _ _ _ => False) (hr.make C us []) (I2.env0.make C us []) hbi r2 hsp) fun rs s' hq' => ?_))
  match rs, hq' with
  | .error er, hq' => exact passF pins σ _ _ er s' I2 hq'
  | .ok (.ret u), hq' =>
    obtain ⟨v, H2, os2, bare2, un2, hok2, rv, ev, dx, hd, ne, eH⟩ := hq'
    subst ev
    subst eH
    obtain ⟨h2, g2, d2, t2, os'⟩ := s'
    refine ⟨rv, L2.mk_end (d := dx) (fs := fV vs) (raises_own T.f.exC ty) I1 hsz kk un2 hok2 os2 bare2 upd_same (by rw [upd_ne ne, upd_same]) hd ?_⟩
    have e1 : upd (del (upd (upd (upd H1 (hp.objs.size + 1) (exo (hp.objs.size + 1) C none)) dx (exd dx (fV vs))) (hp.objs.size + 1) (exo (hp.objs.size + 1) C (some dx))) (hp.objs.size + 1)) dx (.xd (fV vs)) = upd H1 dx (.xd (fV vs)) := by
      funext b
      by_cases z : b = dx
      · rw [z, upd_same, upd_same]
      · rw [upd_ne z, upd_ne z]
        by_cases z2 : b = hp.objs.size + 1
        · rw [z2, del_same, hna]
        · rw [del_ne z2, upd_ne z2, upd_ne z, upd_ne z2]
    rw [e1]
    exact q dx hd
  | .ok .next, hq' => exact hq'.elim
  | .ok .brk, hq' => exact hq'.elim
  | .ok .cont, hq' => exact hq'.elim
def M.rais (n : Nat) (cn : Str) (fD : List D → List (Str × D)) (fs : M (List D)) : M Out := fs.bind fun ds => M.grd (ds.length = n) fun ρ => .er cn (fD ds) ρ
/-- as Fit, where what is wished of exceptions may look at the slots: within a try -/
structure FitT (X : Cx) (c : Fc) : Prop where
  k : X.K = c.K
  mg : X.mg = c.mg
  tk : Takes X c.W
theorem Fit.t (fx : Fit X c) : FitT X c := ⟨fx.k, fx.mg, fx.tk⟩
theorem ds_rais {fV : List V → List (Str × V)} {fD : List D → List (Str × D)} (hcalm : X.calm = true) (fx : FitT X c) (K : Mkf n fV fD) (T : XCls X.K C fI bmB newId) (ty : PySem.W.typeIn X.K (.ref C) = some (.type "type")) (Fn : FnOk X.prog X.w X.K X.mg X.base (L2.CX X.prog X.w) k fI fd ps (spX C n fV)) (hr : Room (k + 1) X.A) (hb : Binds X.K fd ps []) (hpn : ps.length = n + 1) (hn : n ≤ 1000) (hg : Gl X cn) (hm : X.mg cn = some (.ref C))
    (ha : DA X c (a :: es) fs) (hdb : (cn == ("__debug__" : Str)) = false := by decide) (he : starEach (a :: es) X.env = (false, eval a X.env) :: starEach es X.env := by rfl) (hpl : (backTo p2 (starEach es X.env)).any (·.1) = false := by rfl) :
    DS X c (.Raise (some (.Call (.Name cn p) (a :: es) [] p2)) none pos) (M.rais n cn fD fs) :=
  PSw (ps_raise hcalm fx.tk (pmk_x T Fn hr hb hpn hn hg hm ha hdb he hpl ty)) fun E σ H ⟨F, ρ, rr, h⟩ => ⟨F, ρ, rr, (Sst.bindA (σ := σ) h).mono (.refl _) fun vs H1 ⟨F1, ρ1, ds, r1, l1, t1, h1⟩ => by
    obtain ⟨z, h1⟩ := Sst.grd (b := ds.length = n) h1
    refine ⟨t1.length.trans z, fun dx hd => ?_⟩
    obtain ⟨k1, k2⟩ := K.go (t1.length.trans z) t1
    exact h1 C dx σ _ _ (fV vs) (by rw [← fx.mg]; exact hm) (r1.ext (.new r1.sub hd)) ((Ext.new (T := c.T) r1.sub hd).le r1.sub) upd_same k1 (k2.le ((Ext.new (T := c.T) r1.sub hd).le r1.sub))⟩
end
end DL

set_option Elab.async false
set_option linter.all false
set_option maxRecDepth 100000
set_option maxHeartbeats 4000000
/-! DX5: try .. except as, the caught exception a datum. -/
namespace DL
open PySem PySem.Spec PyProof.Rows L2
section
variable {X : Cx} {pins : List (Addr × Obj)} {σ : L2.St} {H : Hp} {s : Shared} {a : Addr} {o : HO} {oe : Obj}
/-- an object that the run itself has made is tracked from here on -/
theorem Inv.track (I : Inv X pins σ H s) (na : H a = none) (h0 : X.s_0.heap.get? a = none) (hx : s.heap.get? a = some oe) (hnc : ∀ v, oe.data ≠ .cell v) (nL : a ≠ X.env.locals) (np : ∀ p ∈ X.pn ++ pins, p.1 ≠ a) (new : ObjOk X.prog X.w (upd H a o) s.heap a o) : Inv X pins σ (upd H a o) s where
  ok := I.ok
  os := I.os
  bare := I.bare
  base := { keep := I.base.keep, slot := I.base.slot, there := I.base.there
            free := fun b o q n hx => by rw [upd_ne (fun z => by rw [z, h0] at q; cases q)]; exact I.base.free b o q n hx
            tups := fun b xs q => by have y := I.base.tups b xs q; rw [upd_ne (ne_of_none y na)]; exact y
            frzs := fun b o u q => by have y := I.base.frzs b o u q; rw [upd_ne (ne_of_none y na)]; exact y
            tbls := fun b ps q => by obtain ⟨m, y⟩ := I.base.tbls b ps q; exact ⟨m, by rw [upd_ne (ne_of_none y na)]; exact y⟩ }
  loc := I.loc
  cell := I.cell
  free := by rw [upd_ne (Ne.symm nL)]; exact I.free
  freeC := fun x c e => by
    obtain ⟨v, oc, h1, h2⟩ := I.cell x c e
    rw [upd_ne (fun z => by rw [z, hx] at h1; cases h1; exact hnc _ h2)]; exact I.freeC x c e
  pin := fun p hp => by
    obtain ⟨k1, k2, k3⟩ := I.pin p hp
    exact ⟨k1, by rw [upd_ne (np p hp)]; exact k2, k3⟩
  hok := fun b u e => by
    by_cases hb : b = a
    · subst hb; rw [upd_same] at e; cases e; exact new
    · rw [upd_ne hb] at e
      exact (I.hok b u e).stay (fun c v _ q => q) (fun c q => by rw [upd_ne (ne_of_none q na)]; exact q) fun c xs q => by rw [upd_ne (ne_of_none q na)]; exact q
  len := I.len
/-- what an except clause names: t, and how an exception's class stands to it -/
structure Clause (X : Cx) (t : Expr) (m : Value → Option Bool) : Prop where
  run : ∀ (a : Addr) (pn : List (Addr × Obj)) (σ : L2.St) (H : Hp) (s : Shared) (cls : Value) (b : Bool) (Q : Bool → Shared → Prop) (E : Value → Shared → Prop), Inv (X.suite a pn) [] σ H s → PySem.W.Looks (model X.prog X.w) s.heap (typeOf (.ref a)) cls → m cls = some b →
    (∀ h', (∀ q u, s.heap.get? q = some u → h'.get? q = some u) → Q b { s with heap := h' }) →
    wpAny (model X.prog X.w) (X.A.mark (some (.ref a))) (eval t X.env) (fun c s1 => wpAny (model X.prog X.w) (X.A.mark (some (.ref a))) (excMatches (.ref a) c) Q E s1) E s
theorem clause1 {x : Str} {np : Pos} {c : Value} (hc : Names X x c) : Clause X (.Name x np) (fun cls => PySem.W.exmOne X.K cls c) := ⟨fun a pn σ H s cls b Q E I LT hm q => by
  have LM := PySem.W.exm_one (M := model X.prog X.w) I.kIn LT hm
  have fin : wpAny (model X.prog X.w) (X.A.mark (some (.ref a))) (excMatches (.ref a) c) Q E s := LM.here (q s.heap fun _ _ z => z)
  obtain ⟨hg, hd, h1 | ⟨h1, h2, h3⟩⟩ := hc
  · exact ld_glob (X := X.suite a pn) I hg h1 fin hd
  · exact ld_blt (X := X.suite a pn) I hg h1 h2 fin h3 hd⟩
theorem clause3 {x1 x2 x3 : Str} {c1 c2 c3 : Value} {p1 p2 p3 tp : Pos} {kk : Nat} (g1 : Gl X x1) (m1 : X.mg x1 = some c1) (g2 : Gl X x2) (m2 : X.mg x2 = some c2) (g3 : Gl X x3) (m3 : X.mg x3 = some c3)
    (d1 : (x1 == ("__debug__" : Str)) = false := by decide) (d2 : (x2 == ("__debug__" : Str)) = false := by decide) (d3 : (x3 == ("__debug__" : Str)) = false := by decide) :
    Clause X (.Tuple [.Name x1 p1, .Name x2 p2, .Name x3 p3] kk tp) (fun cls => PySem.W.exmAny X.K cls [c1, c2, c3]) := ⟨fun a pn σ H s cls b Q E I LT hm q => by
  have S : Inv (X.suite a pn) [] σ H s := I
  refine wpAny_Tuple (wpAny_items_cons (ld_glob (X := X.suite a pn) S g1 m1 (wpAny_items_cons (ld_glob (X := X.suite a pn) S g2 m2 (wpAny_items_cons (ld_glob (X := X.suite a pn) S g3 m3 (wpAny_items_nil ⟨by size_fits, ?_⟩) d3)) d2)) d1))
  have kp : ∀ q o, s.heap.get? q = some o → (s.heap.push { cls := .type "tuple", data := .seq [c1, c2, c3].toArray }).get? q = some o := fun _ _ z => Heap.get?_push_of_some _ z
  exact (PySem.W.exm_tup3 (M := model X.prog X.w) (I.kIn.keeps kp) (LT.keeps kp) (Heap.get?_push_size s.heap rfl) hm).here (q _ kp)⟩
theorem flying_keeps {B h h' : Heap} {l : List Env} {Z : Obj → Prop} (k : ∀ b o, h.get? b = some o → h'.get? b = some o) (f : HandSPX.FlyingZ B l a Z h) : HandSPX.FlyingZ B l a Z h' := by
  obtain ⟨f1, f2, f3, oe, vs, T, oT, ts, t1, t2, t3, t4, t5, t6, t7, t8, t9⟩ := f
  exact ⟨fun b o e => k b o (f1 b o e), f2, Heap.FunFrames.of_keeps (fun b o e _ => ⟨o, k b o e, rfl⟩) f3, oe, vs, T, oT, ts, k _ _ t1, t2, t3, t4, t5, t6, k _ _ t7, t8, t9⟩
end
/-- what the clause wishes of an exception of the body: slot i gets it, tracked -/
def wTry (m : Value → Option Bool) (i : Nat) (ts : TS) (Wout : WX) (D : Ends) : WX := fun cls d σ H =>
  ∃ b, m cls = some b ∧ (b = true → ∀ a, H a = none → ∃ (C dd : Addr), cls = .ref C ∧ d = some dd ∧
    ts { nx := fun σ' H' => D.nx (σ'.set i none) H', rt := D.rt, bk := fun σ' H' => D.bk (σ'.set i none) H', ct := fun σ' H' => D.ct (σ'.set i none) H' } (σ.set i (some (.ref a))) (upd H a (exv a C dd))) ∧ (b = false → Wout cls d σ H)
section
variable {X : Cx} {t : Expr} {n : Str} {m : Value → Option Bool} {i : Nat} {body suite : List Stmt} {b₀ : Stmt} {pos pos' : Pos} {tb : WX → TS} {ts : TS} {Wout : WX}
theorem ps_tryE (hs : X.stack = X.env :: X.outer) (hf : X.env.frame = some X.env.locals) (hN : X.N.Nodup) (hi : X.N[i]? = some n) (hln : X.env.kindOf n = some .local) (hex : X.ex = []) (cl : Clause X t m) (tk : Takes X Wout)
    (hb : ∀ (W : WX) (pn : List (Addr × Obj)) (xe : Value → Shared → Prop), Takes (X.tr pn xe) W → PassesOwn (model X.prog X.w) X.A X.env xe → PSs (X.tr pn xe) body (tb W)) (hsu : ∀ (a : Addr) (pn : List (Addr × Obj)), PSs (X.suite a pn) (b₀ :: suite) ts) :
    PS X (.Try body [.ExceptHandler (some t) (some n) (b₀ :: suite) pos'] [] [] pos) (fun D σ H => tb (wTry m i ts Wout D) D σ H) := by
  refine ⟨fun pins s σ H D I h => ?_⟩
  have ok := I.ok
  have hfr : X.A.frames = some (X.env :: X.outer) := by rw [ok.frames, hs]
  have hloc : Loc X.env.scope n := .inl hln
  let xe' : Value → Shared → Prop := fun e s₁ => wpAny (model X.prog X.w) X.A (noteFrame e X.env) (fun _ s₂ => wpAny (model X.prog X.w) X.A (setFlight e none) (fun _ s₃ => wpAny (model X.prog X.w) X.A (handleBy e X.env [.ExceptHandler (some t) (some n) (b₀ :: suite) pos']) (SP X pins D) X.xe s₃) X.xe s₂) X.xe s₁
  have hbody := (hb (wTry m i ts Wout D) (X.pn ++ pins) xe' (fun u s' xx => ?_) PassesOwn.looking).run [] s σ H D (I.toTry _) h
  · refine wpAny_Try_except (wpAny_mono hbody (fun f s1 hsp => ?_) (fun e s1 he => he))
    cases f with
    | next => obtain ⟨σ', H', J', q⟩ := hsp; exact wpAny_execs_nil ⟨σ', H', J'.ofTry ok, q⟩
    | brk => obtain ⟨σ', H', J', q⟩ := hsp; exact ⟨σ', H', J'.ofTry ok, q⟩
    | cont => obtain ⟨σ', H', J', q⟩ := hsp; exact ⟨σ', H', J'.ofTry ok, q⟩
    | ret u => obtain ⟨v, σ', H', J', r, q⟩ := hsp; exact ⟨v, σ', H', J'.ofTry ok, r, q⟩
  obtain ⟨a, B, sI, pins', σ', H', cls, d, rfl, J', nb, up, sky, na, os, ag, b, hb1, hyes, hno⟩ := xx
  have J : Inv X pins σ' H' sI := J'.ofTry ok
  have sky' : Sky B (X.env :: X.outer) a (Zc cls d) X.env.locals s'.heap := by rw [← hs]; exact sky
  show wpAny (model X.prog X.w) X.A (noteFrame (.ref a) X.env) _ _ _
  refine Sky.land Zc.steady hfr hf sky' fun h3 fl3 up3 => ?_
  have landed : ∀ {h : Heap}, HandSPX.FlyingZ B (X.env :: X.outer) a (Zc cls d) h → sI.heap.UpToSlots h → Inv X pins σ' H' { s' with heap := h } := fun fl u => J.landed nb fl.1 u os ag
  have J3 := landed fl3 (up.trans up3)
  -- the exception's object: new, no frame, no cell
  have there : ∀ {h : Heap}, HandSPX.FlyingZ B (X.env :: X.outer) a (Zc cls d) h → ∃ oe vs, h.get? a = some oe ∧ Zc cls d oe ∧ oe.data = .fields vs ∧ a ∉ frs (X.env :: X.outer) := fun {h} fl => by
    obtain ⟨oe, vs, e1, e2, e3⟩ := fl.there
    refine ⟨oe, vs, e1, e2, e3, fun hm => ?_⟩
    obtain ⟨_, o', e', hnf⟩ := fl.2.2.1.mem hm
    rw [e1] at e'; cases e'
    exact hnf _ e3
  obtain ⟨oe3, vs3, he3, hz3, hd3, nfr⟩ := there fl3
  have nL : a ≠ X.env.locals := fun z => nfr (List.mem_filterMap.mpr ⟨X.env, List.mem_cons_self, by rw [hf, z]⟩)
  have gone : ∀ {o : Obj}, sI.heap.get? a ≠ some o := fun {o} e => by
    have y := nb a o e (by rw [hs]; exact nfr)
    rw [fl3.2.1] at y; cases y
  have h0 : X.s_0.heap.get? a = none := by
    cases e : X.s_0.heap.get? a with
    | none => rfl
    | some o =>
      obtain ⟨o', e'⟩ := J.base.there a o e (by rw [hex]; simp)
      exact (gone e').elim
  have np : ∀ p ∈ X.pn ++ pins, p.1 ≠ a := fun p hp z => by
    have y := (J.pin p hp).1
    rw [z] at y
    exact gone y
  have toS : ∀ {pn' : List (Addr × Obj)} {σ0 : L2.St} {H0 : Hp} {s0 : Shared}, Inv X pins σ0 H0 s0 → Inv (X.suite a (X.pn ++ pins)) [] σ0 H0 s0 := fun {_ σ0 H0 s0} J0 =>
    ⟨J0.ok.suite _ _, J0.os, J0.bare, J0.base, J0.loc, J0.cell, J0.free, J0.freeC, fun p hp => J0.pin p (by rw [List.append_nil] at hp; exact hp), J0.hok, J0.len⟩
  have ofS : ∀ {σ0 : L2.St} {H0 : Hp} {s0 : Shared}, Inv (X.suite a (X.pn ++ pins)) [] σ0 H0 s0 → Inv X pins σ0 H0 s0 := fun {σ0 H0 s0} J0 =>
    ⟨ok, J0.os, J0.bare, J0.base, J0.loc, J0.cell, J0.free, J0.freeC, fun p hp => J0.pin p (by rw [List.append_nil]; exact hp), J0.hok, J0.len⟩
  have LT : PySem.W.Looks (model X.prog X.w) h3 (typeOf (.ref a)) cls := fun A Q E s k q => wpAny_typeOf_ref (k _ _ he3) (by rw [hz3.1]; exact q)
  refine wpAny_handleBy_cons (codeAny_handlers_test (cl.run a (X.pn ++ pins) σ' H' _ cls b _ _ (toS (pn' := []) J3) LT hb1 fun h3' kp => ?_)) (by intro q; cases q)
  have fl3' := flying_keeps kp fl3
  have up3' : sI.heap.UpToSlots h3' := (up.trans up3).trans (Heap.UpToSlots.of_keeps kp)
  cases b with
  | true =>
    refine codeAny_handlers_suite_as (HandSPX.lands_againZ fl3' fun h4 fl4 up4 => ?_)
    have J4 := landed fl4 (up3'.trans up4)
    obtain ⟨oe4, vs4, he4, hz4, hd4, _⟩ := there fl4
    obtain ⟨C, dd, ec, ed, hq⟩ := hyes rfl a na
    subst ec ed
    have T4 : Inv X pins σ' (upd H' a (exv a C dd)) { s' with heap := h4 } := Inv.track J4 na h0 he4 (fun v z => by rw [hd4] at z; cases z) nL np (exv_ok he4 hz4.1 hz4.2 hd4)
    refine store_ok (X := X.suite a (X.pn ++ pins)) (v := .ref a) (toS (pn' := []) T4) hN hi hloc rfl (fun s5 S5 => ?_) (.inr hln)
    refine wpAny_mono ((hsu a (X.pn ++ pins)).run [] s5 _ _ _ S5 hq) (fun f s6 hsp => ?_) (fun _ _ z => False.elim z)
    have end_ : ∀ {σ6 : L2.St} {H6 : Hp} {Q : Shared → Prop}, Inv (X.suite a (X.pn ++ pins)) [] σ6 H6 s6 → (∀ s7, Inv X pins (σ6.set i none) H6 s7 → Q s7) →
        wpAny (model X.prog X.w) X.A (do bindName X.env n .none; unbindBehindTheSuite X.env n pos') (fun _ s7 => Q s7) X.xe s6 := fun {σ6 H6 Q} S6 hq => gone_ok (ofS S6) hN hi hln hq
    cases f with
    | next => obtain ⟨σ6, H6, S6, q6⟩ := hsp; exact end_ S6 fun s7 J7 => ⟨_, _, J7, q6⟩
    | brk => obtain ⟨σ6, H6, S6, q6⟩ := hsp; exact end_ S6 fun s7 J7 => ⟨_, _, J7, q6⟩
    | cont => obtain ⟨σ6, H6, S6, q6⟩ := hsp; exact end_ S6 fun s7 J7 => ⟨_, _, J7, q6⟩
    | ret u => obtain ⟨v6, σ6, H6, S6, r6, q6⟩ := hsp; exact end_ S6 fun s7 J7 => ⟨_, _, _, J7, r6, q6⟩
  | false =>
    show wpAny _ X.A (handleBy (.ref a) X.env []) _ _ _
    refine wpAny_handleBy_nil ?_
    obtain ⟨k1, k2, k3, oe, vs, T, oT, ts', he, hz, hd, h1, hr⟩ := id fl3'
    unfold PySem.passOn
    refine wpAny_bind (wpAny_field he hd h1 ?_)
    rw [if_neg (show ¬ ((Value.ref T == Value.none) = true) from by simp)]
    have fin : wpAny (model X.prog X.w) X.A (setFlight (.ref a) X.env.frame) (fun _ s4 => wpAny (model X.prog X.w) X.A (throw (.ref a) : Sem Flow) (SP X pins D) X.xe s4) X.xe { s' with heap := h3' } := by
      rw [hf]
      exact HandSPX.setFlight_upZ fl3' fun h4 hh4 up4 => wpAny_throw (tk _ _ ⟨a, B, sI, pins, σ', H', cls, d, rfl, J, nb, up3'.trans up4, .inr (.inr (by rw [hs]; exact hh4)), na, os, ag, hno rfl⟩)
    first
      | exact wpAny_bind (wpAny_pure (wpAny_bind fin))
      | exact wpAny_bind fin
end
end DL

set_option Elab.async false
set_option linter.all false
set_option maxRecDepth 100000
set_option maxHeartbeats 4000000
/-! DX6: try .. except as over data. -/
namespace DL
open PySem PySem.Spec PyProof.Rows L2
section
variable {X : Cx} {c : Fc} {F H : Hp} {σ : L2.St} {ρ : Sls} {t : Expr} {n : Str} {m : Value → Option Bool} {i : Nat} {body suite : List Stmt} {b₀ : Stmt} {pos pos' : Pos} {gb gs : M Out} {cat : Str → Option Bool}
/-- other wishes of exceptions -/
def Fc.wish (c : Fc) (W : WX) : Fc := ⟨c.K, c.mg, c.T, c.G, c.F0, c.B, W⟩
theorem R.wish {W : WX} (r : R c F H σ ρ) : R (c.wish W) F H σ ρ := ⟨r.sub, r.ent, r.tab, r.ft, r.dom, r.frz, r.bor, r.len, fun i => by
  have x := r.sl i
  revert x
  cases ρ[i]? with
  | none => exact fun _ => True.intro
  | some s => cases s <;> exact fun x => x, r.one, r.own⟩
theorem R.unwish {W : WX} (r : R (c.wish W) F H σ ρ) : R c F H σ ρ := ⟨r.sub, r.ent, r.tab, r.ft, r.dom, r.frz, r.bor, r.len, fun i => by
  have x := r.sl i
  revert x
  cases ρ[i]? with
  | none => exact fun _ => True.intro
  | some s => cases s <;> exact fun x => x, r.one, r.own⟩
def M.tryAs (i : Nat) (cat : Str → Option Bool) (gb gs : M Out) : M Out := fun ρ => match gb ρ with
  | .er cn fs ρ' => match cat cn with
    | some true => match gs (ρ'.set i (.im (.ex cn fs))) with
      | .ok o ρ2 => .ok o (ρ2.set i .un)
      | _ => .no
    | some false => .er cn fs ρ'
    | none => .no
  | r => r
theorem ds_try (hs : X.stack = X.env :: X.outer) (hf : X.env.frame = some X.env.locals) (hN : X.N.Nodup) (hi : X.N[i]? = some n) (hln : X.env.kindOf n = some .local) (hex : X.ex = []) (fx : FitT X c) (cl : Clause X t m) (hcat : ∀ (cn : Str) (C : Addr) (b : Bool), X.mg cn = some (.ref C) → cat cn = some b → m (.ref C) = some b)
    (hb : ∀ (c' : Fc) (pn : List (Addr × Obj)) (xe : Value → Shared → Prop), FitT (X.tr pn xe) c' → c'.T = c.T → PassesOwn (model X.prog X.w) X.A X.env xe → DSs (X.tr pn xe) c' body gb)
    (hsu : ∀ (c' : Fc) (a : Addr) (pn : List (Addr × Obj)), Fit (X.suite a pn) c' → c'.T = c.T → DSs (X.suite a pn) c' (b₀ :: suite) gs) :
    DS X c (.Try body [.ExceptHandler (some t) (some n) (b₀ :: suite) pos'] [] [] pos) (M.tryAs i cat gb gs) :=
  PSw (ps_tryE (tb := fun W => tSt (c.wish W) gb) (ts := tSt (c.wish fun _ _ _ _ => False) gs) hs hf hN hi hln hex cl fx.tk (fun W pn xe tk po => hb (c.wish W) pn xe ⟨fx.k, fx.mg, tk⟩ rfl po)
    (fun a pn => hsu (c.wish fun _ _ _ _ => False) a pn ⟨fx.k, fx.mg, takes0, fun _ _ _ _ _ z => z⟩ rfl)) fun D σ H ⟨F, ρ, rr, h⟩ => by
  refine ⟨F, ρ, rr.wish, ?_⟩
  unfold M.tryAs at h
  cases e : gb ρ with
  | ok o ρ' =>
    rw [e] at h
    cases o with
    | nx => exact fun σ' F' H' r l => h σ' F' H' r.unwish l
    | rt d => exact fun σ' v F' H' r l t => h σ' v F' H' r.unwish l t
    | bk => exact fun σ' F' H' r l => h σ' F' H' r.unwish l
    | ct => exact fun σ' F' H' r l => h σ' F' H' r.unwish l
  | no => rw [e] at h; exact False.elim h
  | er cn fs ρ' =>
    rw [e] at h
    dsimp only at h
    intro C dd σ' F' H' fv mC r l e1 e2 e3
    have mC' : X.mg cn = some (.ref C) := by rw [fx.mg]; exact mC
    cases ec : cat cn with
    | none => rw [ec] at h; exact False.elim h
    | some b =>
      rw [ec] at h
      refine ⟨b, hcat cn C b mC' ec, fun hb1 a na => ?_, fun hb0 => ?_⟩
      · subst hb1
        dsimp only at h
        refine ⟨C, dd, rfl, rfl, upd F' a (exv a C dd), ρ'.set i (.im (.ex cn fs)), ?_, ?_⟩
        · have x1 : Ext c.T F' H' (upd F' a (exv a C dd)) (upd H' a (exv a C dd)) := .new r.sub na
          have dt : c.Dt (upd F' a (exv a C dd)) (.ref a) (.ex cn fs) := .ex mC upd_same (by rw [upd_ne (fun z => by have y := r.sub _ _ e1; rw [z, na] at y; cases y)]; exact e1) e2 (e3.le (x1.le r.sub))
          exact ((r.unwish.ext x1).setIm dt).wish
        · have x1 : Ext c.T F' H' (upd F' a (exv a C dd)) (upd H' a (exv a C dd)) := .new r.sub na
          have l2 := l.trans (x1.le r.sub)
          cases eg : gs (ρ'.set i (.im (.ex cn fs))) with
          | no => rw [eg] at h; exact False.elim h
          | er _ _ _ => rw [eg] at h; exact False.elim h
          | ok o ρ2 =>
            rw [eg] at h
            cases o with
            | nx => exact fun σ2 F2 H2 r2 l3 => h _ F2 H2 (r2.unwish.setUn (o := none)) (l2.trans l3)
            | rt d => exact fun σ2 v F2 H2 r2 l3 t => h (σ2.set i none) v F2 H2 r2.unwish.setUn (l2.trans l3) t
            | bk => exact fun σ2 F2 H2 r2 l3 => h _ F2 H2 (r2.unwish.setUn (o := none)) (l2.trans l3)
            | ct => exact fun σ2 F2 H2 r2 l3 => h _ F2 H2 (r2.unwish.setUn (o := none)) (l2.trans l3)
      · subst hb0
        exact h C dd σ' F' H' fv mC r.unwish l e1 e2 e3
end
end DL

set_option Elab.async false
set_option linter.all false
set_option maxRecDepth 100000
set_option maxHeartbeats 4000000
/-! DT: readings found by search. -/
namespace DL
open PySem PySem.Spec PyProof.Rows L2
section
variable {X : Cx} {c : Fc} {F H : Hp} {σ : L2.St} {ρ : Sls} {a b e : Expr} {fa fb fe : M D} {es : List Expr} {fs : M (List D)} {pos p : Pos} {x : Str} {T : List (Addr × Str)}
/-- two ways to read the same; the second where the first says nothing -/
def M.alt {α : Type} (f g : M α) : M α := fun ρ => match f ρ with
  | .no => g ρ
  | r => r
theorem de_alt {f g : M D} (h1 : DE X c e f) (h2 : DE X c e g) : DE X c e (f.alt g) := ⟨fun pins s σ H Q I ⟨F, ρ, r, h⟩ => by
  unfold M.alt at h
  cases q : f ρ with
  | no => rw [q] at h; exact h2.run pins s σ H Q I ⟨F, ρ, r, h⟩
  | ok _ _ => rw [q] at h; exact h1.run pins s σ H Q I ⟨F, ρ, r, by rw [q]; exact h⟩
  | er _ _ _ => rw [q] at h; exact h1.run pins s σ H Q I ⟨F, ρ, r, by rw [q]; exact h⟩⟩
theorem di_alt {tg : Expr} {f g : M (List D)} (h1 : DI X c tg e f) (h2 : DI X c tg e g) : DI X c tg e (f.alt g) := ⟨fun pins s σ H Q I ⟨F, ρ, r, h⟩ => by
  unfold M.alt at h
  cases q : f ρ with
  | no => rw [q] at h; exact h2.run pins s σ H Q I ⟨F, ρ, r, h⟩
  | ok _ _ => rw [q] at h; exact h1.run pins s σ H Q I ⟨F, ρ, r, by rw [q]; exact h⟩
  | er _ _ _ => rw [q] at h; exact h1.run pins s σ H Q I ⟨F, ρ, r, by rw [q]; exact h⟩⟩
theorem ds_alt {st : Stmt} {f g : M Out} (h1 : DS X c st f) (h2 : DS X c st g) : DS X c st (f.alt g) := ⟨fun pins s σ H D I ⟨F, ρ, r, h⟩ => by
  unfold M.alt at h
  cases q : f ρ with
  | no => rw [q] at h; exact h2.run pins s σ H D I ⟨F, ρ, r, h⟩
  | ok _ _ => rw [q] at h; exact h1.run pins s σ H D I ⟨F, ρ, r, by rw [q]; exact h⟩
  | er _ _ _ => rw [q] at h; exact h1.run pins s σ H D I ⟨F, ρ, r, by rw [q]; exact h⟩⟩
/-- a def of the text, its promise over data -/
structure Cal (P : Program) (w : World) (K : PySem.W.Frag) (mg : Str → Option Value) (base : Heap) (T : List (Addr × Str)) (x : Str) (k n : Nat) (fn : List D → Res D) : Prop where
  ex : ∃ f fd ps, mg x = some (.ref f) ∧ FnOk P w K mg base (L2.CX P w) k f fd ps (spD K mg T n fn) ∧ PySem.W.keepIn K (.ref f) = true ∧ Binds K fd ps []
/-- .. one that changes its first argument -/
structure CalO (P : Program) (w : World) (K : PySem.W.Frag) (mg : Str → Option Value) (base : Heap) (T : List (Addr × Str)) (x : Str) (k n : Nat) (fn : D → List D → Res (D × D)) : Prop where
  ex : ∃ f fd ps, mg x = some (.ref f) ∧ FnOk P w K mg base (L2.CX P w) k f fd ps (spB K mg T n fn) ∧ PySem.W.keepIn K (.ref f) = true ∧ Binds K fd ps []
/-- a constant of the module -/
structure Con (K : PySem.W.Frag) (mg : Str → Option Value) (x : Str) (d : D) : Prop where
  ex : ∃ v u, mg x = some u ∧ RelV v u ∧ ∀ F, Dt K mg F v d
theorem de_con {d : D} (fx : Fit X c) (h : Con X.K X.mg x d) (hg : Gl X x) (hd : (x == ("__debug__" : Str)) = false := by decide) : DE X c (.Name x pos) (M.ret d) := by
  obtain ⟨v, u, hm, r, t⟩ := h.ex
  exact de_glob hg hm r (fun F => by have q := t F; rw [fx.k, fx.mg] at q; exact q) hd
theorem de_callC {k j n : Nat} {fn : List D → Res D} (fx : Fit X c) (hT : c.T = T) (h : Cal X.prog X.w X.K X.mg X.base T x k n fn) (hr : Room j X.A) (hj : k ≤ j) (hg : Gl X x) (ha : DA X c (a :: es) fs)
    (hdb : (x == ("__debug__" : Str)) = false := by decide) (he : starEach (a :: es) X.env = (false, eval a X.env) :: starEach es X.env := by rfl) (hpl : (backTo pos (starEach es X.env)).any (·.1) = false := by rfl) :
    DE X c (.Call (.Name x p) (a :: es) [] pos) (fs.bind (M.call n fn)) := by
  subst hT
  obtain ⟨f, fd, ps, hm, Fn, hk, hb⟩ := h.ex
  exact de_call fx Fn (hr.mono hj) hg hm hk hb ha hdb he hpl
theorem de_callOC {i k j n : Nat} {y : Str} {py : Pos} {fn : D → List D → Res (D × D)} (fx : Fit X c) (hT : c.T = T) (h : CalO X.prog X.w X.K X.mg X.base T x k n fn) (hr : Room j X.A) (hj : k ≤ j) (hg : Gl X x) (hN : X.N[i]? = some y) (hv : Vis X.env.scope y) (ha : DA X c es fs)
    (hdb : (x == ("__debug__" : Str)) = false := by decide) (hd : (y == ("__debug__" : Str)) = false := by decide) (hcd : (y == ("__classdict__" : Str)) = false := by decide)
    (he : starEach (.Name y py :: es) X.env = (false, eval (.Name y py) X.env) :: starEach es X.env := by rfl) (hpl : (backTo pos (starEach es X.env)).any (·.1) = false := by rfl) :
    DE X c (.Call (.Name x p) (.Name y py :: es) [] pos) (M.callO i n fn fs) := by
  subst hT
  obtain ⟨f, fd, ps, hm, Fn, hk, hb⟩ := h.ex
  exact de_callO fx Fn (hr.mono hj) hg hm hk hb hN hv ha hdb hd hcd he hpl
theorem de_isiC {ins exc : List Str} {kt : DL.KT} (fx : Fit X c) (kk : DL.Kinds X.K X.mg ins exc) (ok : KtOk X.K X.mg kt) (hg : Gl X "isinstance") (hm : X.mg "isinstance" = none) (ha : DA X c [a, b] fs)
    (he : starEach [a, b] X.env = (false, eval a X.env) :: starEach [b] X.env := by rfl) (hpl : (backTo pos (starEach [b] X.env)).any (·.1) = false := by rfl) :
    DE X c (.Call (.Name "isinstance" p) [a, b] [] pos) (fs.bind (g2 (isiD ins exc kt))) := de_isi fx (by rw [← fx.k, ← fx.mg]; exact kk) (by rw [← fx.k, ← fx.mg]; exact ok) hg hm ha he hpl
end
/-- a block's names, looked at -/
def blkB (N : List Str) (sc scope : Scope) (own : List (Str × Nat)) : Bool :=
  decide (scope.kind = .function) && (scope.names.all fun y => decide (scope.names.lookup y.1 = some y.2)) && (own.all fun p => decide (N[p.2]? = some p.1)) &&
    (scope.names.all fun y => !decide (y.2 = .free) || decide (sc.names.lookup y.1 = some .cell) || decide (sc.names.lookup y.1 = some .free)) && scope.names.all fun y => !(decide (y.2 = .local) || decide (y.2 = .cell)) || decide (y.1 ∈ own.map (·.1)) || !decide (y.1 ∈ N)
theorem blk_by {N : List Str} {sc scope : Scope} {own : List (Str × Nat)} (h : blkB N sc scope own = true) : BlkOk N sc scope own := by
  unfold blkB at h
  simp only [Bool.and_eq_true, List.all_eq_true, decide_eq_true_eq, Bool.or_eq_true, Bool.not_eq_true', decide_eq_false_iff_not] at h
  obtain ⟨⟨⟨⟨h1, h2⟩, h3⟩, h4⟩, h5⟩ := h
  refine ⟨h1, h2, h3, fun y hy e => ?_, fun y hy e => ?_⟩
  · rcases h4 y hy with (z | z) | z
    · exact absurd e z
    · exact .inl z
    · exact .inr z
  · rcases h5 y hy with (z | z) | z
    · simp only [Bool.or_eq_false_iff, decide_eq_false_iff_not] at z
      exact (e.elim (fun w => z.1 w) fun w => z.2 w).elim
    · exact .inl z
    · exact .inr z
end DL

set_option Elab.async false
set_option linter.all false
set_option maxRecDepth 100000
set_option maxHeartbeats 4000000
/-! DU: what the text has of classes, bundled by their names. -/
namespace DL
open PySem PySem.Spec PyProof.Rows L2
/-- an own error with attributes by fD of n arguments -/
structure XcB (P : Program) (w : World) (K : PySem.W.Frag) (mg : Str → Option Value) (base : Heap) (cn : Str) (n : Nat) (fD : List D → List (Str × D)) : Prop where
  ex : ∃ C fI fd ps bmB newId fV, mg cn = some (.ref C) ∧ XCls K C fI bmB newId ∧ PySem.W.typeIn K (.ref C) = some (.type "type") ∧ Mkf n fV fD ∧ FnOk P w K mg base (L2.CX P w) 1 fI fd ps (spX C n fV) ∧ Binds K fd ps [] ∧ ps.length = n + 1 ∧ n ≤ 1000
/-- an attribute f of the class cn, no class of it has the name -/
structure FlB (K : PySem.W.Frag) (mg : Str → Option Value) (cn f : Str) : Prop where
  ex : ∃ C, mg cn = some (.ref C) ∧ Cls K C ∧ NoAttr K C f
/-- a property f of the class cn -/
structure PrB (P : Program) (w : World) (K : PySem.W.Frag) (mg : Str → Option Value) (base : Heap) (T : List (Addr × Str)) (cn f : Str) (k : Nat) (fn : List D → Res D) : Prop where
  ex : ∃ C pa g fd ps, mg cn = some (.ref C) ∧ Cls K C ∧ PropOf K C f pa g ∧ FnOk P w K mg base (L2.CX P w) k g fd ps (spD K mg T 1 fn) ∧ Binds K fd ps []
/-- the class cn, made by an __init__ of n parameters -/
structure MkB (P : Program) (w : World) (K : PySem.W.Frag) (mg : Str → Option Value) (base : Heap) (T : List (Addr × Str)) (cn : Str) (k n : Nat) (fn : D → List D → Res (D × D)) : Prop where
  ex : ∃ C fI fd ps, mg cn = some (.ref C) ∧ Mk K C fI ∧ FnOk P w K mg base (L2.CX P w) k fI fd ps (spB K mg T n fn) ∧ Binds K fd ps []
section
variable {X : Cx} {c : Fc} {F H : Hp} {σ : L2.St} {ρ : Sls} {a b e : Expr} {fa fb fe : M D} {es : List Expr} {fs : M (List D)} {pos p p1 p2 p' : Pos} {x cn f : Str} {T : List (Addr × Str)} {i j k n : Nat}
theorem ds_raisC {fD : List D → List (Str × D)} (hcalm : X.calm = true) (fx : FitT X c) (h : XcB X.prog X.w X.K X.mg X.base cn n fD) (hr : Room j X.A) (hj : 2 ≤ j) (hg : Gl X cn) (ha : DA X c (a :: es) fs)
    (hdb : (cn == ("__debug__" : Str)) = false := by decide) (he : starEach (a :: es) X.env = (false, eval a X.env) :: starEach es X.env := by rfl) (hpl : (backTo p2 (starEach es X.env)).any (·.1) = false := by rfl) :
    DS X c (.Raise (some (.Call (.Name cn p) (a :: es) [] p2)) none pos) (M.rais n cn fD fs) := by
  obtain ⟨C, fI, fd, ps, bmB, newId, fV, hm, T, ty, K, Fn, hb, hl, hn⟩ := h.ex
  exact ds_rais hcalm fx K T ty Fn (hr.mono hj) hb hl hn hg hm ha hdb he hpl
theorem de_fldC (fx : Fit X c) (h : FlB X.K X.mg cn f) (ha : DE X c a fa) (hb : attributeBase a f X.env (eval a X.env) = eval a X.env := by rfl) : DE X c (.Attribute a f pos) (M.fld cn fa f) := by
  obtain ⟨C, hm, cl, na⟩ := h.ex
  exact de_fld fx hm cl na ha hb
theorem de_fldOC (fx : Fit X c) (h : FlB X.K X.mg cn f) (hN : X.N[i]? = some x) (hv : Vis X.env.scope x) (hd : (x == ("__debug__" : Str)) = false := by decide) (hcd : (x == ("__classdict__" : Str)) = false := by decide)
    (hb : attributeBase (.Name x p) f X.env (eval (.Name x p) X.env) = eval (.Name x p) X.env := by rfl) : DE X c (.Attribute (.Name x p) f pos) (M.fldO cn i f) := by
  obtain ⟨C, hm, cl, na⟩ := h.ex
  exact de_fldO fx hm cl na hN hv hd hcd hb
theorem ds_setFC (fx : Fit X c) (h : FlB X.K X.mg cn f) (hN : X.N[i]? = some x) (hv : Vis X.env.scope x) (he : DE X c e fe) (hd : (x == ("__debug__" : Str)) = false := by decide) (hcd : (x == ("__classdict__" : Str)) = false := by decide)
    (hs : swapsWith e (some (.Attribute (.Name x p) f p')) pos.line X.env = pure false := by rfl) : DS X c (.Assign [.Attribute (.Name x p) f p'] e pos) (M.setF cn i f fe) := by
  obtain ⟨C, hm, cl, na⟩ := h.ex
  exact ds_setF fx hm cl na hN hv he hd hcd hs
theorem de_propC {fn : List D → Res D} (fx : Fit X c) (hT : c.T = T) (h : PrB X.prog X.w X.K X.mg X.base T cn f k fn) (hr : Room j X.A) (hj : k + 1 ≤ j) (ha : DE X c a fa) (hab : attributeBase a f X.env (eval a X.env) = eval a X.env := by rfl) : DE X c (.Attribute a f pos) (M.prop cn fn fa) := by
  subst hT
  obtain ⟨C, pa, g, fd, ps, hm, cl, hp, Fn, hb⟩ := h.ex
  exact de_prop fx hm cl hp Fn (hr.mono hj) hb ha hab
theorem de_mkC {fn : D → List D → Res (D × D)} (fx : Fit X c) (hT : c.T = T) (h : MkB X.prog X.w X.K X.mg X.base T cn k n fn) (hr : Room j X.A) (hj : k + 1 ≤ j) (hg : Gl X cn) (ha : DA X c (a :: es) fs)
    (hdb : (cn == ("__debug__" : Str)) = false := by decide) (he : starEach (a :: es) X.env = (false, eval a X.env) :: starEach es X.env := by rfl) (hpl : (backTo pos (starEach es X.env)).any (·.1) = false := by rfl) :
    DE X c (.Call (.Name cn p) (a :: es) [] pos) (M.mk n cn fn fs) := by
  subst hT
  obtain ⟨C, fI, fd, ps, hm, mk, Fn, hb⟩ := h.ex
  exact de_mk fx mk Fn (hr.mono hj) hg hm hb ha hdb he hpl
theorem de_mkLC {fn : D → List D → Res (D × D)} (fx : Fit X c) (hT : c.T = T) (h : MkB X.prog X.w X.K X.mg X.base T cn k n fn) (hr : Room j X.A) (hj : k + 1 ≤ j) (hN : X.N[i]? = some x) (hv : Vis X.env.scope x) (ha : DA X c (a :: es) fs)
    (hdb : (x == ("__debug__" : Str)) = false := by decide) (hcd : (x == ("__classdict__" : Str)) = false := by decide) (he : starEach (a :: es) X.env = (false, eval a X.env) :: starEach es X.env := by rfl) (hpl : (backTo pos (starEach es X.env)).any (·.1) = false := by rfl) :
    DE X c (.Call (.Name x p) (a :: es) [] pos) (M.mkL i n cn fn fs) := by
  subst hT
  obtain ⟨C, fI, fd, ps, hm, mk, Fn, hb⟩ := h.ex
  exact de_mkL fx mk Fn (hr.mono hj) hm hb hN hv ha hdb hcd he hpl
end
end DL

set_option Elab.async false
set_option linter.all false
set_option maxRecDepth 100000
set_option maxHeartbeats 4000000
/-! DV: repr of data, where no repr is under way. -/
namespace DL
open PySem PySem.Spec PyProof.Rows L2
/-- the text of a datum, if it is one that repr shows and it isn't too long or deep -/
def shownD (d : D) : Option Str := match toPy d with
  | some p => if (p.showable && !p.hasDict && decide (p.depth < 50) && decide (p.shown.length ≤ 16777216)) = true then some p.shown else none
  | none => none
theorem shownD_of {d : D} {x : Str} (h : shownD d = some x) : ∃ p, toPy d = some p ∧ p.showable = true ∧ p.hasDict = false ∧ p.depth < 50 ∧ p.shown.length ≤ sizeLine ∧ x = p.shown := by
  unfold shownD at h
  cases e : toPy d with
  | none => rw [e] at h; cases h
  | some p =>
    rw [e] at h
    dsimp only at h
    split at h
    · rename_i q
      simp only [Bool.and_eq_true, Bool.not_eq_true', decide_eq_true_eq] at q
      obtain ⟨⟨⟨q1, q2⟩, q3⟩, q4⟩ := q
      exact ⟨p, rfl, q1, q2, q3, by rw [line_eq]; exact q4, (Option.some.inj h).symm⟩
    · cases h
def reprD (d : D) : M D := M.of ((shownD d).map .str)
/-- what repr shows of a value that stands for data -/
def rRepr (K : PySem.W.Frag) : List V → Hp → VK → Prop := fun xs H Q => ∃ v p, xs = [v] ∧ Dp K H v p ∧ p.showable = true ∧ p.hasDict = false ∧ p.depth < 50 ∧ p.shown.length ≤ sizeLine ∧ Q (.str p.shown) H
section
variable {X : Cx} {c : Fc} {F H : Hp} {σ : L2.St} {ρ : Sls} {a b e : Expr} {fs : M (List D)} {pos p : Pos} {k : Nat}
theorem call_repr (hg : X.A.guards = some []) (hr : Room k X.A) : CallR X (.builtin "repr") (rRepr X.K) := by
  intro pins s σ H xs us Q I r h
  obtain ⟨v, p, rfl, dp, h1, h2, h3, h4, q⟩ := h
  cases r with
  | @cons _ u _ us rv rr =>
    cases rr
    obtain ⟨as, rd⟩ := Dp.reads I p v u dp rv
    have hu : X.A.units + (p.depth + 1) < cLine := by have := hr.un; omega
    cases rd with
    | none => exact PySem.P.repr_of_none ⟨.str _, H, I.tok _, ⟨_, rfl⟩, q⟩
    | bool b => exact PySem.P.repr_of_bool ⟨.str _, H, I.tok _, ⟨_, rfl⟩, q⟩
    | int i t => exact PySem.P.repr_of_int (of_decide_eq_true h1) ⟨.str _, H, I.tok _, ⟨_, rfl⟩, q⟩
    | str x t => exact PySem.P.repr_of_str (h := ⟨.str _, H, I.tok _, ⟨_, rfl⟩, q⟩) (hsz := h4)
    | list e1 e2 e3 e4 => exact repr_of_reads' (.list e1 e2 e3 e4) h1 (PyData.noDict_hsm h2) hg hu (fun _ _ e => e) (fun h' u tk hk => ⟨.str _, H, I.kept hk, ⟨_, rfl⟩, q⟩) h4
    | tuple e1 e2 e3 e4 => exact repr_of_reads' (.tuple e1 e2 e3 e4) h1 (PyData.noDict_hsm h2) hg hu (fun _ _ e => e) (fun h' u tk hk => ⟨.str _, H, I.kept hk, ⟨_, rfl⟩, q⟩) h4
    | dict _ _ _ _ _ => cases h2
theorem de_repr (fx : Fit X c) (hgd : X.A.guards = some []) (hr : Room k X.A) (hg : Gl X "repr") (hm : X.mg "repr" = none) (ha : DA X c [a] fs) (he : starEach [a] X.env = (false, eval a X.env) :: starEach [] X.env := by rfl) (hpl : (backTo pos (starEach [] X.env)).any (·.1) = false := by rfl) :
    DE X c (.Call (.Name "repr" p) [a] [] pos) (fs.bind (g1 reprD)) :=
  de_callB (call_repr hgd hr) (call1 fun F H σ ρ x d Q rr t q => by
    obtain ⟨w, ew, q⟩ := Pst.of (o := (shownD d).map .str) q
    obtain ⟨y, ey, e2⟩ := Option.map_eq_some_iff.mp ew
    subst e2
    obtain ⟨p, e1, h1, h2, h3, h4, e3⟩ := shownD_of ey
    subst e3
    exact ⟨x, p, rfl, by rw [fx.k]; exact t.dp rr.sub e1, h1, h2, h3, h4, q.ret rr (.str _)⟩) hg hm boot_repr ha (by decide) (by decide) he hpl
end
end DL

set_option Elab.async false
set_option linter.all false
set_option maxRecDepth 100000
set_option maxHeartbeats 4000000
/-! DW: own exceptions as values and caught, bundled. -/
namespace DL
open PySem PySem.Spec PyProof.Rows L2
/-- .. whose keywords ks find the parameters by π -/
structure XkB (P : Program) (w : World) (K : PySem.W.Frag) (mg : Str → Option Value) (base : Heap) (cn : Str) (n : Nat) (ks : List Str) (π : List Nat) (fD : List D → List (Str × D)) : Prop where
  ex : ∃ C fI fd ps bmB newId fV, mg cn = some (.ref C) ∧ XCls K C fI bmB newId ∧ Mkf n fV fD ∧ FnOk P w K mg base (L2.CX P w) 1 fI fd ps (spX C n fV) ∧ KBn K fd ps 1 ks (fun us ws => us ++ pick π ws) (fun vs zs => vs ++ pick π zs)
/-- an own error made without arguments, without attributes -/
structure X0B (P : Program) (w : World) (K : PySem.W.Frag) (mg : Str → Option Value) (base : Heap) (cn : Str) : Prop where
  ex : ∃ C : Addr, mg cn = some (.ref C) ∧ ∀ (X : Cx) (p pos : Pos), X.prog = P → X.w = w → X.K = K → X.mg = mg → X.base = base → Gl X cn → Room 2 X.A → PE X (.Call (.Name cn p) [] [] pos) (fun σ H Q => ∀ a, H a = none → Q (.ref a) (upd H a (exn a C)))
/-- how the classes of errors stand to what a clause names -/
structure CatB (mg : Str → Option Value) (m : Value → Option Bool) (cat : Str → Option Bool) : Prop where
  go : ∀ (cn : Str) (C : Addr) (b : Bool), mg cn = some (.ref C) → cat cn = some b → m (.ref C) = some b
section
variable {X : Cx} {c : Fc} {F H : Hp} {σ : L2.St} {ρ : Sls} {a b e : Expr} {fa fb fe : M D} {es : List Expr} {fs : M (List D)} {pos p pos' : Pos} {x cn f : Str} {T : List (Addr × Str)} {i j k n : Nat} {kws : List Keyword} {ks : List Str} {π : List Nat} {fD : List D → List (Str × D)}
theorem de_xmkC (fx : Fit X c) (h : XcB X.prog X.w X.K X.mg X.base cn n fD) (hr : Room j X.A) (hj : 2 ≤ j) (hg : Gl X cn) (ha : DA X c (a :: es) fs)
    (hdb : (cn == ("__debug__" : Str)) = false := by decide) (he : starEach (a :: es) X.env = (false, eval a X.env) :: starEach es X.env := by rfl) (hpl : (backTo pos (starEach es X.env)).any (·.1) = false := by rfl) :
    DE X c (.Call (.Name cn p) (a :: es) [] pos) (fs.bind (M.xmk n cn fD)) := by
  obtain ⟨C, fI, fd, ps, bmB, newId, fV, hm, T, ty, K, Fn, hb, hl, hn⟩ := h.ex
  exact de_xmk fx K T Fn (hr.mono hj) hb hl hn hg hm ha hdb he hpl
theorem de_xmkKC (fx : Fit X c) (h : XkB X.prog X.w X.K X.mg X.base cn n ks π fD) (hr : Room j X.A) (hj : 2 ≤ j) (hg : Gl X cn) (ha : DK X c kws fs)
    (hall : (backToKw pos (keywordEach kws X.env)).all (·.1.isSome) = true := by rfl) (hks : (backToKw pos (keywordEach kws X.env)).filterMap (·.1) = ks := by rfl) (hdb : (cn == ("__debug__" : Str)) = false := by decide)
    (hpl : ((backTo pos (starEach [] X.env)).any (·.1) || (backToKw pos (keywordEach kws X.env)).any (·.1.isNone)) = false := by rfl) :
    DE X c (.Call (.Name cn p) [] kws pos) (fs.bind fun ds => M.grd (ds.length = ks.length) (M.xmk n cn fD (pick π ds))) := by
  obtain ⟨C, fI, fd, ps, bmB, newId, fV, hm, T, K, Fn, hb⟩ := h.ex
  exact de_xmkK fx K T Fn (hr.mono hj) hb hg hm ha hall hks hdb hpl
theorem de_x0C (fx : Fit X c) (h : X0B X.prog X.w X.K X.mg X.base cn) (hr : Room j X.A) (hj : 2 ≤ j) (hg : Gl X cn) : DE X c (.Call (.Name cn p) [] [] pos) (M.ret (.ex cn [])) := by
  obtain ⟨C, hm, go⟩ := h.ex
  refine PEw (go X p pos rfl rfl rfl rfl rfl hg (hr.mono hj)) fun σ H Q ⟨F, ρ, rr, h⟩ a ha => ?_
  have x1 : Ext c.T F H (upd F a (exn a C)) (upd H a (exn a C)) := .new rr.sub ha
  exact h _ _ _ (rr.ext x1) (x1.le rr.sub) (.ex0 (by rw [← fx.mg]; exact hm) upd_same)
/-- try: body, except x as n: suite -/
theorem ds_tryC {y n : Str} {np : Pos} {cv : Value} {body suite : List Stmt} {b₀ : Stmt} {gb gs : M Out} {cat : Str → Option Bool} (hs : X.stack = X.env :: X.outer) (hf : X.env.frame = some X.env.locals) (hN : X.N.Nodup) (hi : X.N[i]? = some n) (hln : X.env.kindOf n = some .local) (hex : X.ex = []) (fx : FitT X c)
    (hg : Gl X y) (hm : X.mg y = some cv) (hd : (y == ("__debug__" : Str)) = false) (hcat : CatB X.mg (fun cls => PySem.W.exmOne X.K cls cv) cat)
    (hb : ∀ (c' : Fc) (pn : List (Addr × Obj)) (xe : Value → Shared → Prop), FitT (X.tr pn xe) c' → c'.T = c.T → PassesOwn (model X.prog X.w) X.A X.env xe → DSs (X.tr pn xe) c' body gb)
    (hsu : ∀ (c' : Fc) (a : Addr) (pn : List (Addr × Obj)), Fit (X.suite a pn) c' → c'.T = c.T → DSs (X.suite a pn) c' (b₀ :: suite) gs) :
    DS X c (.Try body [.ExceptHandler (some (.Name y np)) (some n) (b₀ :: suite) pos'] [] [] pos) (M.tryAs i cat gb gs) :=
  ds_try hs hf hN hi hln hex fx (clause1 ⟨hg, hd, .inl hm⟩) hcat.go hb hsu
/-- a def of the text that is called where no repr is under way -/
structure CalG (P : Program) (w : World) (K : PySem.W.Frag) (mg : Str → Option Value) (base : Heap) (T : List (Addr × Str)) (x : Str) (k n : Nat) (fn : List D → Res D) : Prop where
  ex : ∃ f fd ps, mg x = some (.ref f) ∧ FnG P w K mg base k f fd ps (spD K mg T n fn) ∧ PySem.W.keepIn K (.ref f) = true ∧ Binds K fd ps []
theorem de_callGC {fn : List D → Res D} (fx : Fit X c) (hT : c.T = T) (hgd : X.A.guards = some []) (h : CalG X.prog X.w X.K X.mg X.base T x k n fn) (hr : Room j X.A) (hj : k ≤ j) (hg : Gl X x) (ha : DA X c (a :: es) fs)
    (hdb : (x == ("__debug__" : Str)) = false := by decide) (he : starEach (a :: es) X.env = (false, eval a X.env) :: starEach es X.env := by rfl) (hpl : (backTo pos (starEach es X.env)).any (·.1) = false := by rfl) :
    DE X c (.Call (.Name x p) (a :: es) [] pos) (fs.bind (M.call n fn)) := by
  subst hT
  obtain ⟨f, fd, ps, hm, Fn, hk, hb⟩ := h.ex
  exact de_callG fx Fn (hr.mono hj) hgd hg hm hk hb ha hdb he hpl
end
end DL

set_option Elab.async false
set_option linter.all false
set_option maxRecDepth 100000
set_option maxHeartbeats 4000000
/-! DY: one reading for items of lists, texts, tuples and dicts; one for what is gone through. -/
namespace DL
open PySem PySem.Spec PyProof.Rows L2
/-- says no more -/
def M.le {α : Type} (f g : M α) : Prop := ∀ ρ, f ρ = .no ∨ f ρ = g ρ
section
variable {X : Cx} {c : Fc} {a b e : Expr} {fa fb : M D} {pos p : Pos} {k : Nat}
theorem DE.less {f g : M D} (h : DE X c e g) (l : M.le f g) : DE X c e f := ⟨fun pins s σ H Q I ⟨F, ρ, r, q⟩ => by
  rcases l ρ with z | z
  · rw [z] at q; exact False.elim q
  · rw [z] at q; exact h.run pins s σ H Q I ⟨F, ρ, r, q⟩⟩
theorem DI.less {tg : Expr} {f g : M (List D)} (h : DI X c tg e g) (l : M.le f g) : DI X c tg e f := ⟨fun pins s σ H Q I ⟨F, ρ, r, q⟩ => by
  rcases l ρ with z | z
  · rw [z] at q; exact False.elim q
  · rw [z] at q; exact h.run pins s σ H Q I ⟨F, ρ, r, q⟩⟩
def gIxA (d k : D) : M D := (gIx d k).alt (gDx d k)
theorem two_alt {g g' : D → D → M D} : M.le (M.two fa fb fun d k => (g d k).alt (g' d k)) ((M.two fa fb g).alt (M.two fa fb g')) := fun ρ => by
  unfold M.alt M.two M.bind
  cases fa ρ with
  | no => exact .inl rfl
  | er _ _ _ => exact .inr rfl
  | ok d ρ1 =>
    dsimp only
    cases fb ρ1 with
    | no => exact .inl rfl
    | er _ _ _ => exact .inr rfl
    | ok k ρ2 => exact .inr rfl
theorem de_ixA (fx : Fit X c) (hr : Room k X.A) (ha : DE X c a fa) (hb : DE X c b fb) (hs : PlainIx b := by exact fun _ _ => rfl) (hs2 : NoSl b := by exact fun _ _ => rfl) : DE X c (.Subscript a b pos) (M.two fa fb gIxA) :=
  (de_alt (de_ix fx ha hb hs) (de_dx hr ha hb hs2)).less two_alt
def itemsA (d : D) : M (List D) := (itemsL d).alt ((itemsT d).alt (itemsS d))
theorem bind_alt {g g' : D → M (List D)} : M.le (fa.bind fun d => (g d).alt (g' d)) ((fa.bind g).alt (fa.bind g')) := fun ρ => by
  unfold M.alt M.bind
  cases fa ρ with
  | no => exact .inl rfl
  | er _ _ _ => exact .inr rfl
  | ok d ρ1 => exact .inr rfl
theorem M.le.alt {α : Type} {f g h : M α} (l : M.le g h) : M.le (f.alt g) (f.alt h) := fun ρ => by
  unfold M.alt
  cases f ρ with
  | no => exact l ρ
  | er _ _ _ => exact .inr rfl
  | ok _ _ => exact .inr rfl
theorem M.le.trans {α : Type} {f g h : M α} (a : M.le f g) (b : M.le g h) : M.le f h := fun ρ => by
  rcases a ρ with z | z
  · exact .inl z
  · rcases b ρ with y | y
    · exact .inl (z.trans y)
    · exact .inr (z.trans y)
theorem di_any {tg : Expr} (fx : Fit X c) (ha : DE X c a fa) : DI X c tg a (fa.bind itemsA) :=
  (di_alt (di_list fx ha) (di_alt (di_tup fx ha) (di_str ha))).less (bind_alt.trans (M.le.alt bind_alt))
theorem opd_alt {r r' : R2} {g g' : D → D → M D} (h : OpD c r g) (h' : OpD c r' g') : OpD c (fun x y H Q => r x y H Q ∨ r' x y H Q) (fun d e => (g d e).alt (g' d e)) := fun F H σ ρ x y d e Q rr tx ty q => by
  have q : Pst c σ F ((g d e).alt (g' d e) ρ) Q := q
  unfold M.alt at q
  cases z : g d e ρ with
  | no => rw [z] at q; exact .inr (h' F H σ ρ x y d e Q rr tx ty q)
  | ok _ _ => rw [z] at q; exact .inl (h F H σ ρ x y d e Q rr tx ty (by rw [z]; exact q))
  | er _ _ _ => rw [z] at q; exact .inl (h F H σ ρ x y d e Q rr tx ty (by rw [z]; exact q))
/-- two texts, equal or not -/
def gSS (neg : Bool) : D → D → M D
  | .str i, .str j => M.ret (.bl (if neg then !decide (i = j) else decide (i = j)))
  | _, _ => M.no
theorem dec_s (i j : Str) : decide (V.str i = V.str j) = decide (i = j) := by
  by_cases z : i = j
  · subst z; rw [decide_eq_true (rfl : V.str i = V.str i), decide_eq_true (rfl : i = i)]
  · rw [decide_eq_false (fun y => z (by cases y; rfl)), decide_eq_false z]
theorem opd_ss : OpD c rEq (gSS false) := fun F H σ ρ x y d e Q rr tx ty q => by
  cases tx with
  | str i =>
    cases ty with
    | str j => exact ⟨rfl, by rw [dec_s]; exact q.ret rr (.bl _)⟩
    | _ => exact False.elim q
  | _ => exact False.elim q
theorem opd_sn : OpD c rNe (gSS true) := fun F H σ ρ x y d e Q rr tx ty q => by
  cases tx with
  | str i =>
    cases ty with
    | str j => exact ⟨rfl, by rw [dec_s]; exact q.ret rr (.bl _)⟩
    | _ => exact False.elim q
  | _ => exact False.elim q
def gEqA (d e : D) : M D := (gSS false d e).alt (gEq d e)
def gNeA (d e : D) : M D := (gSS true d e).alt (gNe d e)
theorem de_eqA (fx : Fit X c) (hr : Room k X.A) (ha : DE X c a fa) (hb : DE X c b fb) : DE X c (.Compare a [.Eq] [b] pos) (M.two fa fb gEqA) := de_cmp (op_eq.or (op_eqD hr.units)) (opd_alt opd_ss (opd_eq fx)) ha hb (nomark _)
theorem de_neA (fx : Fit X c) (hr : Room k X.A) (ha : DE X c a fa) (hb : DE X c b fb) : DE X c (.Compare a [.NotEq] [b] pos) (M.two fa fb gNeA) := de_cmp (op_ne.or (op_neD hr.units)) (opd_alt opd_sn (opd_ne fx)) ha hb (nomark _)
theorem dt_eqA (fx : Fit X c) (hr : Room k X.A) (ha : DE X c a fa) (hb : DE X c b fb) : DT X c (.Compare a [.Eq] [b] pos) ((M.two fa fb gEqA).bind M.tb) := dt_cmp (op_eq.or (op_eqD hr.units)) (opd_alt opd_ss (opd_eq fx)) ha hb (nomark _)
theorem dt_neA (fx : Fit X c) (hr : Room k X.A) (ha : DE X c a fa) (hb : DE X c b fb) : DT X c (.Compare a [.NotEq] [b] pos) ((M.two fa fb gNeA).bind M.tb) := dt_cmp (op_ne.or (op_neD hr.units)) (opd_alt opd_sn (opd_ne fx)) ha hb (nomark _)
end
end DL

set_option Elab.async false
set_option linter.all false
set_option maxRecDepth 100000
set_option maxHeartbeats 4000000
/-! DE1: the end of a law row, its def's promise told where no repr is under way. -/
namespace DL
open PySem PySem.Spec PyProof.Rows L2
/-- how the law's call ends -/
abbrev LawEnd (s₁ : Shared) (r : Result) (s' : Shared) : Prop := r = .ok (.ret (.bool true)) ∧ OldK s₁.heap s'.heap ∧ s'.os = s₁.os ∧ AllBare s'.gens
section
variable {P : Program} {w : World} {K : PySem.W.Frag} {mg mb : Str → Option Value} {k : Nat} {fa a : Addr} {fd : FuncData} {x : Str} {sp : Sp} {s₁ : Shared} {vs : List Value} {ns : List Int}
theorem lawG_core (KX : K.In s₁.heap) (hns : s₁.heap.Ns mainGlobals mg) (hb : s₁.heap.Ns builtinsNs mb) (hbb : ∀ x : Str, x ≠ "__name__" → mb x = bootBuiltins x) (hlim : s₁.heap.NoLimit) (hg : s₁.gens = #[]) (ha : s₁.heap.get? a = some { cls := .type "list", data := .seq vs.toArray })
    (hr : Room k callerA) (Fn : ∀ base : Heap, K.In base → base.Ns mainGlobals mg → FnG P w K mg base k fa fd [x] sp) (hbind : ∀ (s : Shared) (u : Value), BindsTo s fd ⟨[u], []⟩ [(x, u)]) (hsp : ∀ H : Hp, Only H → SqL K H a (ns.map V.int) → sp [.ref a] H (fun v _ => v = .bl true) fun _ _ _ => False)
    (H : Hp) (hO : Only H) (hS : SqL K H a (ns.map V.int)) (hok : HOk P w H s₁.heap) (hA : ∀ b, H b ≠ none → b = a) (hK : H a ≠ none → K.lookup a = none) : codeAny (model P w) callerA (.call (.ref fa) ⟨[.ref a], []⟩) (LawEnd s₁) s₁ := by
  have put : ∀ {b : Addr} {o : Obj}, s₁.heap.get? b = some o → H b = none → (hidT s₁.heap H).get? b = some o := fun e n => hidT_get e n
  have none_of : ∀ {b : Addr} {o : Obj}, s₁.heap.get? b = some o → o ≠ { cls := .type "list", data := .seq vs.toArray } → H b = none := fun {b o} e d => by
    rcases h : H b with _ | u
    · rfl
    · have y := hA b (some_ne h)
      rw [y, ha] at e
      exact (d (Option.some.inj e).symm).elim
  have toNs : ∀ {b : Addr} {m : Str → Option Value}, s₁.heap.Ns b m → (hidT s₁.heap H).Ns b m := fun {b m} ⟨o, es, ep, e, d, r⟩ =>
    ⟨o, es, ep, put e (none_of e fun z => by rw [z] at d; exact (nomatch (show Data.seq vs.toArray _ = Data.dict es ep from d))), d, r⟩
  have inB : K.In (hidT s₁.heap H) := fun b o e => put (KX b o e) (by
    rcases h : H b with _ | u
    · rfl
    · have y := hA b (some_ne h)
      subst y
      rw [hK (some_ne h)] at e; cases e)
  have lim : ∃ mc, (hidT s₁.heap H).Ns cStatics mc ∧ _ := let ⟨mc, h1, h2⟩ := hlim; ⟨mc, toNs h1, h2⟩
  have md : Mod K mg (hidT s₁.heap H) := ⟨inB, toNs hns, ⟨mb, toNs hb, hbb⟩, lim⟩
  have e0 : Env0 P w K mg (hidT s₁.heap H) callerA [] s₁ H := ⟨rfl, md, (fun b o e => of_hidT e), Nat.le_of_eq (hidT_size _ _), trivial, (fun b hb => nomatch (show b ∈ ([] : List Addr) from hb)), hok, .of_eq hg⟩
  refine codeAny_mono ((Fn _ inB (toNs hns)).go callerA [] s₁ H ⟨[.ref a], []⟩ [.ref a] [.ref a] _ _ hr rfl e0 (hbind s₁ (.ref a)) (.cons rfl .nil) (hsp H hO hS)) fun r s' h => ?_
  match r, h with
  | .error e, h => obtain ⟨_, _, _, _, _, _, _, _, _, _, _, _, z⟩ := h; exact z.elim
  | .ok .next, h => exact False.elim h
  | .ok .brk, h => exact False.elim h
  | .ok .cont, h => exact False.elim h
  | .ok (.ret u), h =>
    obtain ⟨v, H', os, bare, un, hok', rv, q⟩ := h
    have q : v = .bl true := q
    subst q
    obtain rfl : u = Value.bool true := rv
    refine ⟨rfl, OldK.of_keep fun b o e => ?_, os, bare⟩
    rcases h : H b with _ | u
    · exact un.keep b o e h (fun z => nomatch (show b ∈ ([] : List Addr) from z)) (by simp)
    · rcases hO b with z | ⟨ob, xs, z⟩
      · rw [h] at z; cases z
      · obtain ⟨e1, _⟩ := hok b _ z
        obtain ⟨e2, _⟩ := hok' b _ (un.frzs b ob _ z)
        rw [e] at e1; cases e1
        exact e2
theorem lawG_call (KX : K.In s₁.heap) (hns : s₁.heap.Ns mainGlobals mg) (hb : s₁.heap.Ns builtinsNs mb) (hbb : ∀ x : Str, x ≠ "__name__" → mb x = bootBuiltins x) (hlim : s₁.heap.NoLimit) (hg : s₁.gens = #[]) (ha : s₁.heap.get? a = some { cls := .type "list", data := .seq vs.toArray })
    (hi : IntsAre vs ns) (hl : ns.length ≤ sizeLine) (hr : Room k callerA) (Fn : ∀ base : Heap, K.In base → base.Ns mainGlobals mg → FnG P w K mg base k fa fd [x] sp) (hbind : ∀ (s : Shared) (u : Value), BindsTo s fd ⟨[u], []⟩ [(x, u)])
    (hsp : ∀ H : Hp, Only H → SqL K H a (ns.map V.int) → sp [.ref a] H (fun v _ => v = .bl true) fun _ _ _ => False) : codeAny (model P w) callerA (.call (.ref fa) ⟨[.ref a], []⟩) (LawEnd s₁) s₁ := by
  have rv := vals_ints hi
  have len := hi.length
  have go := lawG_core KX hns hb hbb hlim hg ha hr Fn hbind hsp
  rcases hk : K.lookup a with _ | o
  · let H0 : Hp := fun b => if b = a then some (.frz { cls := .type "list", data := .seq vs.toArray } (.lst (ns.map V.int))) else none
    have at_ : H0 a = some (.frz { cls := .type "list", data := .seq vs.toArray } (.lst (ns.map V.int))) := if_pos rfl
    have off : ∀ {b}, b ≠ a → H0 b = none := fun h => if_neg h
    refine go H0 (fun b => ?_) (.inl (.inr ⟨_, at_⟩)) (fun b u z => ?_) (fun b z => ?_) fun _ => hk
    · by_cases e : b = a
      · subst e; exact .inr ⟨_, _, at_⟩
      · exact .inl (off e)
    · by_cases e : b = a
      · subst e
        rw [at_] at z; cases z
        exact ⟨ha, by rw [List.length_map]; exact hl, vs, _, rv, ha⟩
      · rw [off e] at z; cases z
    · by_cases e : b = a
      · exact e
      · exact (z (off e)).elim
  · have e := KX a o hk
    rw [ha] at e
    cases e
    exact go (fun _ => none) (fun _ => .inl rfl) (.inr ⟨_, vs.toArray, _, hk, rfl, rfl, rfl, by rw [List.size_toArray, len]; exact hl, by simpa using rv⟩) (fun b u z => nomatch (show (none : Option HO) = some u from z)) (fun b z => (z rfl).elim) fun z => (z rfl).elim
end
theorem walkG {l : PySem.W.OpenLaw} {n k : Nat} {q : Program} {loose : List Str} {XP : (Str → Option Value) → Heap → Prop} {YP : World → Heap → Prop} {d : DefRec} {K : Params → PySem.W.Frag} {sp : World → Sp} {x : Str} (hn : l.most = some n) (hn2 : n ≤ sizeLine) (hdf : d.params.defaults = []) (hr : Room k callerA)
    (hY : ∀ (w : World) (h : Heap), YP w h → (K w.params).In h)
    (Fn : ∀ (w : World) (mg : Str → Option Value) (fa : Addr) (h : Heap), (K w.params).In h → h.Ns mainGlobals mg → mg d.name = some (.ref fa) → ∃ fd : FuncData, (∀ (s : Shared) (u : Value), BindsTo s fd ⟨[u], []⟩ [(x, u)]) ∧ ∀ base : Heap, (K w.params).In base → base.Ns mainGlobals mg → FnG l.prog w (K w.params) mg base k fa fd [x] (sp w))
    (hsp : ∀ (w : World) (H : Hp) (a : Addr) (ns : List Int), ns.length ≤ n → Only H → SqL (K w.params) H a (ns.map V.int) → sp w [.ref a] H (fun v _ => v = .bl true) fun _ _ _ => False) :
    PySem.W.WalkO q loose XP YP l.row.toRowW d [] (fun f vs => PySem.call f vs) := by
  refine Att.attach_call hn hdf fun w s₀ s₁ mg mb fa o pm cd doc a vs ns G Y ho hd hcd hmg hobj hints hlen hg => ?_
  have KX := hY w _ Y
  obtain ⟨fd, hb, hF⟩ := Fn w mg fa _ KX G.T.g hmg
  exact lawG_call KX G.T.g G.T.b G.T.builtins G.T.nolimit hg hobj hints (Nat.le_trans hlen hn2) hr hF hb fun H hO hS => hsp w H a ns hlen hO hS
end DL

set_option Elab.async false
set_option linter.all false
set_option maxRecDepth 100000
set_option maxHeartbeats 4000000
/-! DX0: an own exception class whose __init__ says super().__init__(). -/
namespace DL
open PySem PySem.Spec PyProof.Rows PySem.W PySem.Calls
section
variable {prog : Program} {w : World} {A : Around} {R : Result → Shared → Prop} {s : Shared} {K : Frag} {C fI cc cda x t0 : Addr} {mg mb : Str → Option Value} {B i newId : String} {bmB : List Value}
variable {qual : Str} {params : Arguments} {body : List Stmt} {scope : Scope} {dV kV doc pm ct oc ccl cl : Value} {an od cdd cld : Option Addr} {osl ccs csl : Array (Option Value)} {vs : Array Value} {file : Str} {tf : Tok} {ar : Arg} {cd : ClassData} {p0 p1 p2 p3 p4 : Pos}
theorem x0_he {o : Expr} {name : Str} {apos pos : Pos} {env : Env} (hline : (apos.endLine == pos.line) = true) :
    eval (.Call (.Attribute o name apos) [] [] pos) env = (do
      let ov ← attributeBase o name env (eval o env)
      standAt apos.atName
      let (f, first) ← holding [ov] (getMethod ov name (do return (← importBound o env).getD true))
      callWith pos f first (backTo pos (starEach [] env)) []) := by
  have hpos : methodCallPos true o env apos pos = pure pos := by unfold methodCallPos; simp [hline]
  rw [arm_eval_Call]
  refine congrArg _ (funext fun ov => congrArg _ (funext fun _ => ?_))
  show methodCall o name apos pos env ov 0 (backTo pos (starEach [] env)) [] = _
  unfold methodCall
  have hform : methodCallForm 0 (backTo pos (starEach [] env)) [] = true := rfl
  rw [hform, hpos]
  rfl
theorem x0_init (X : K.In s.heap) (hns : s.heap.Ns mainGlobals mg) (hmg : mg "super" = none) (hb : s.heap.Ns builtinsNs mb) (hbb : ∀ x : Str, x ≠ "__name__" → mb x = bootBuiltins x) (hlim : s.heap.NoLimit) (hroom : A.depth < recursionLimit)
    (hx : s.heap.get? x = some (PySem.HandSPX.excO C t0))
    (lk : K.lookup fI = some ⟨oc, od, .func (ksFn "__init__" qual params body scope dV kV doc pm an (.ref cda) ct cc), osl⟩) (hcd : codeIn K (.ref cda) qual = true) (hcode : K.lookup cda = some ⟨ccl, cdd, .fields vs, ccs⟩) (hvs : vs[2]? = some (.str file tf)) (hfile : ((prog.main.file : Str) == file) = true)
    (hcell : K.lookup cc = some ⟨cl, cld, .cell (some (.ref C)), csl⟩) (hC : clsIn K C = some cd) (hmro : mroIn K C (.ref C) = some true) (hsup : ks_superIn K C C "__init__" = some (some (.builtin i))) (hsub : subIn K (.ref C) (.type B) = some true) (hop : nsIn K cStatics "thirdparty.any" = some none)
    (KF : KxsFacts B i) (FB : ExcBaseFacts B newId i bmB) (q : excInitIn K C bmB newId = true) (htop : (prog.main.scope.names.lookup ("super" : Str)).isSome = false)
    (hbody : body = [.Expr (.Call (.Attribute (.Call (.Name "super" p0) [] [] p1) "__init__" p2) [] [] p3) p4]) (hbind : bindArgs (ksFn "__init__" qual params body scope dV kV doc pm an (.ref cda) ct cc) ⟨[.ref x], []⟩ = pure [(("self" : Str), Value.ref x)]) (hp : (params.posonlyargs ++ params.args).head? = some ar) (har : ar.arg = "self")
    (hks : scope.names.lookup ("super" : Str) = some .globalImplicit) (hkc : scope.names.lookup ("__class__" : Str) = some .free) (hka : scope.names.lookup ("self" : Str) = some .local) (hline : (p2.endLine == p3.line) = true) (hk : scope.kind = .function) (hco : scope.isCoroutine = false) (hgen : scope.isGenerator = false) (hnc : ∀ y ∈ scope.names, y.2 ≠ .cell)
    (hq : ∀ h' tk, (∀ b o, b ≠ x → s.heap.get? b = some o → h'.get? b = some o) → (∃ t1, h'.get? x = some (PySem.HandSPX.excO C t1)) → R (.ok (.ret .none)) { s with heap := h', toks := tk }) :
    codeAny (model prog w) A (.call (.ref fI) ⟨[.ref x], []⟩) R s := by
  subst hbody
  refine ks_codeAny_call_defAt (binds := [(("self" : Str), Value.ref x)]) hroom (X _ _ lk) rfl hlim (codeRec_of X hcd) rfl (.of_eq hbind) hnc (fun y hy => ?_) (fun h₁ hn1 k1 => ?_) hco hgen hk
  · rw [List.mem_singleton.mp hy]; exact hka
  have X1 : K.In h₁ := X.keeps k1
  obtain ⟨hp0, g, d, t, os⟩ := s
  refine ks_wpAt_execs_cons (ks_wpAt_Expr_any (ks_wpAt_MethodCall ?_ (x0_he hline)) (hi := by unfold interactive; show (scope.kind == .module && _) = false; rw [hk]; rfl))
  obtain ⟨oD, hD1, hD2⟩ : ∃ oD, h₁.get? C = some oD ∧ oD.data = .cls cd := by
    unfold clsIn at hC
    split at hC
    · rename_i c d cd' sl ho
      cases hC
      exact ⟨_, X1 _ _ ho, rfl⟩
    · cases hC
  have hx1 := k1 _ _ hx
  have xC : x ≠ C := fun z => by rw [z, hD1] at hx1; cases hx1; cases hD2
  refine ks_wpAt_super_base (f := fI) (cc := cda) (ar := ar) hks hkc (by decide +kernel) rfl (X1 _ _ lk) rfl hp rfl (X1 _ _ hcode) rfl hvs hfile htop ?_
  refine ks_loadName_global hk hks (loadGlobal_builtin (hns.keeps k1) hmg (hb.keeps k1) ((hbb _ (by decide +kernel)).trans (by kernel_rfl)) ⟨rfl, ?_⟩)
  refine wpAny_loadName_free hk hkc rfl ⟨_, X1 _ _ hcell, rfl⟩ ?_
  rw [har]
  refine wpAny_loadName_local hk hka hn1 rfl ?_
  refine ks_wpAny_isType_cls hD1 hD2 ⟨rfl, ?_⟩
  refine ks_wpAny_call_super hD1 hD2 hx1 rfl (fun c e => by cases e) (looks_mroIn X1 hmro) (fun h' e k2 => ?_)
  have X2 : K.In h' := X1.keeps k2
  have hx2 := k2 _ _ hx1
  have hI2 : Looks (model prog w) h' (isInstance (.ref x) (.type B)) true := (show PySem.W.InstAt h' x (excObj C t0 none .none) C none from ⟨hx2, rfl, rfl, trivial⟩).type.andThen (looks_subIn X2 hsub)
  refine kxs_getMethod KF (D := C) (x := x) (C := C) e (looks_opaque X2 hop) (l₀ := cd.mro) (l := (cd.mro.dropWhile (· != .ref C)).drop 1) (fun A Q E s k q => wpAny_bind ((looks_clsIn X2 hC) A _ E s k (wpAny_pure q))) rfl X2 ?_ hI2 xC (by decide +kernel) ?_
  · unfold ks_superIn at hsup; rw [hC] at hsup; exact hsup
  refine kxs_callWith (i := i) (x := x) rfl (evalArgs_empty ⟨Heap.get?_push_at rfl rfl, ?_⟩)
  obtain ⟨nm, N', qn, bs, bm, hdct, sn, sub, ab, col, dd, j0, j1, j2, j3, j5, jC, jT⟩ := excInit_of (X2.keeps (fun b o e => Heap.get?_push_of_some (kxs_mw i x) e)) q
  have hu : (h'.push (kxs_mw i x)).get? h'.objs.size = some (kxs_mw i x) := Heap.get?_push_at rfl rfl
  have hx3 : (h'.push (kxs_mw i x)).get? x = some (PySem.HandSPX.excO C t0) := Heap.get?_push_of_some _ hx2
  refine wpAny_call (codeAny_of_tree ?_)
  show wpAny _ (Around.in1 _) (callAny (.ref _) ⟨[], []⟩) _ _ _
  simp only [callAny]
  refine wpAny_bind (wpAny_load hu ?_)
  simp only [kxs_mw, show (Value.type "method-wrapper" == Value.type "method" || Value.type "method-wrapper" == Value.type "builtin_function_or_method" || Value.type "method-wrapper" == Value.type "method-wrapper") = true by decide, if_true]
  refine KFB.if_so (by decide) ?_
  refine wpAny_bind (check_bound_init FB.toExcCallFacts jC hx3 rfl ?_)
  refine wpAny_bind (wpAny_pure (wpAny_pure ?_))
  refine ⟨plainId_quiet FB.init.plain _, codeAny_builtin FB.initEntry ?_⟩
  refine exc_init_tree (cls := .ref C) (t0 := t0) (dv := none) (c2 := .none) (c3 := .none) (b4 := .bool false) hx3 (by decide +kernel) (fun hh kk e' t' => ?_)
  show PySem.wpAt _ _ _ (execs [] _) _ _ _
  refine wpAt_of_wpAny ?_
  refine wpAny_of_eq (a := Flow.next) (by rfl) ?_
  exact hq hh _ (fun b o hb he => kk b o hb (Heap.get?_push_of_some _ (k2 _ _ (k1 _ _ he)))) ⟨_, e'⟩
end
end DL

set_option Elab.async false
set_option linter.all false
set_option maxRecDepth 100000
set_option maxHeartbeats 4000000
/-! DX7: such an exception made: cn() as a value without attributes. -/
namespace DL
open PySem PySem.Spec PyProof.Rows PySem.W PySem.Calls L2
section
variable {P : Program} {w : World} {K : Frag} {base : Heap} {C fI cc cda : Addr} {mg : Str → Option Value} {B i newId : String} {bmB : List Value} {cn : Str}
variable {qual : Str} {params : Arguments} {body : List Stmt} {scope : Scope} {dV kV doc pm ct oc ccl cl : Value} {an od cdd cld : Option Addr}
variable {osl ccs csl : Array (Option Value)} {vs : Array Value} {file : Str} {tf : Tok} {ar : Arg} {cd : ClassData} {p0 p1 p2 p3 p4 : Pos}
theorem x0b_of (hm : mg cn = some (.ref C)) (hmg : mg "super" = none) (kC : keepIn K (.ref C) = true) (iC : findIn K (.ref C) "__init__" = some (some (.ref fI))) (tI : typeIn K (.ref fI) = some (.type "function"))
    (lk : K.lookup fI = some ⟨oc, od, .func (ksFn "__init__" qual params body scope dV kV doc pm an (.ref cda) ct cc), osl⟩) (hcd : codeIn K (.ref cda) qual = true) (hcode : K.lookup cda = some ⟨ccl, cdd, .fields vs, ccs⟩) (hvs : vs[2]? = some (.str file tf)) (hfile : ((P.main.file : Str) == file) = true)
    (hcell : K.lookup cc = some ⟨cl, cld, .cell (some (.ref C)), csl⟩) (hC : clsIn K C = some cd) (hmro : mroIn K C (.ref C) = some true) (hsup : ks_superIn K C C "__init__" = some (some (.builtin i))) (hsub : subIn K (.ref C) (.type B) = some true) (hop : nsIn K cStatics "thirdparty.any" = some none)
    (KF : KxsFacts B i) (FB : ExcBaseFacts B newId i bmB) (q : excInitIn K C bmB newId = true) (htop : (P.main.scope.names.lookup ("super" : Str)).isSome = false)
    (hbody : body = [.Expr (.Call (.Attribute (.Call (.Name "super" p0) [] [] p1) "__init__" p2) [] [] p3) p4]) (hbind : ∀ x : Addr, bindArgs (ksFn "__init__" qual params body scope dV kV doc pm an (.ref cda) ct cc) ⟨[.ref x], []⟩ = pure [(("self" : Str), Value.ref x)]) (hpr : (params.posonlyargs ++ params.args).head? = some ar) (har : ar.arg = "self")
    (hks : scope.names.lookup ("super" : Str) = some .globalImplicit) (hkc : scope.names.lookup ("__class__" : Str) = some .free) (hka : scope.names.lookup ("self" : Str) = some .local) (hline : (p2.endLine == p3.line) = true) (hk : scope.kind = .function) (hco : scope.isCoroutine = false) (hgen : scope.isGenerator = false) (hnc : ∀ y ∈ scope.names, y.2 ≠ .cell)
    (hdb : (cn == ("__debug__" : Str)) = false := by decide) : X0B P w K mg base cn := by
  refine ⟨C, hm, fun X p pos eP ew eK em eb hg hr => ⟨fun pins s σ H Q I h => ?_⟩⟩
  subst eP ew eK em eb
  refine wpAny_Call_Name_kw (ld_glob I hg hm (callWith_K0 I.kIn kC ?_) hdb)
  obtain ⟨nm, N', qn, bs, bm, hdct, sn, sub, ab, col, dd, k0, k1, k2, k3, k5, jC, jT⟩ := excInit_of I.kIn q
  obtain ⟨hp, g, dr, tk, os⟩ := s
  have hsz : hp.objs.size ≤ hp.objs.size + 1 := Nat.le_succ _
  have hn := I.hok.fresh hsz
  have hget : ((hp.push (kdv_tup [])).push (PySem.HandSPX.excO C hp.objs.size)).get? (hp.objs.size + 1) = some (PySem.HandSPX.excO C hp.objs.size) := by heap_get
  have kk : ∀ b o, hp.get? b = some o → ((hp.push (kdv_tup [])).push (PySem.HandSPX.excO C hp.objs.size)).get? b = some o := fun b o e => Heap.get?_push_of_some _ (Heap.get?_push_of_some _ e)
  have I2 : Inv X pins σ (upd H (hp.objs.size + 1) (exo (hp.objs.size + 1) C none)) ⟨(hp.push (kdv_tup [])).push (PySem.HandSPX.excO C hp.objs.size), g, dr, tk, os⟩ := I.laid (t' := tk) (a := hp.objs.size + 1) (o := exo (hp.objs.size + 1) C none) kk hsz (exo_ok hget)
  obtain ⟨mb, b1, b2⟩ := I2.mod.blt
  refine wpAny_call (kcall FB jT jC (looks_findIn I.kIn iC) (fun self => bind_fn I.kIn self tI) (rest := []) (Nat.zero_le _)
    (x0_init (t0 := hp.objs.size) I2.kIn (I2.mod.glob.keeps I2.bk) hmg (b1.keeps I2.bk) b2 (I2.mod.nolimit.keeps I2.bk) (hr.make C [] []).depth hget lk hcd hcode hvs hfile hcell hC hmro hsup hsub hop KF FB q htop hbody (hbind _) hpr har hks hkc hka hline hk hco hgen hnc fun h' tk' k' e1 => ?_))
  obtain ⟨t1, e1⟩ := e1
  have J : Inv X pins σ (upd (upd H (hp.objs.size + 1) (exo (hp.objs.size + 1) C none)) (hp.objs.size + 1) (exn (hp.objs.size + 1) C)) ⟨h', g, dr, tk', os⟩ :=
    I2.write (t' := tk') (x := hp.objs.size + 1) (e := hp.objs.size + 1) (o := exn (hp.objs.size + 1) C) (h' := h') (by rw [upd_same]; exact True.intro) (.inl rfl) (fun b u n z => k' b u n z) ⟨_, e1⟩
      ⟨⟨_, _, e1, rfl, rfl, rfl⟩, ⟨_, e1⟩, fun g1 g2 z k => by
        obtain ⟨oe', vs', q, r⟩ := z
        exact ⟨oe', vs', k _ q, r⟩⟩
  have eU : upd (upd H (hp.objs.size + 1) (exo (hp.objs.size + 1) C none)) (hp.objs.size + 1) (exn (hp.objs.size + 1) C) = upd H (hp.objs.size + 1) (exn (hp.objs.size + 1) C) := by
    funext b
    by_cases z : b = hp.objs.size + 1
    · rw [z, upd_same, upd_same]
    · rw [upd_ne z, upd_ne z, upd_ne z]
  rw [eU] at J
  exact ⟨rfl, V.ref (hp.objs.size + 1), _, J, rfl, h _ hn⟩
end
end DL

set_option Elab.async false
set_option linter.all false
set_option maxRecDepth 100000
set_option maxHeartbeats 4000000
/-! DX8: an own exception of one or two attributes by its facts. -/
namespace DL
open PySem PySem.Spec PyProof.Rows PySem.W PySem.Calls L2
section
variable {P : Program} {w : World} {K : Frag} {base : Heap} {C fI : Addr} {mg : Str → Option Value} {newId : String} {bmB : List Value} {cn x qual g g2 : Str} {st : Stmt} {oc : Value} {od an : Option Addr} {osl : Array (Option Value)} {kV doc pm cdv ct : Value} {p1 p2 p3 p4 q1 q2 q3 q4 : Pos}
theorem xcls_of (b : XBase bmB newId) (q : excInitIn K C bmB newId = true) (ov : excOver K C bmB = true) (sa : findIn K (.ref C) "__setattr__" = some (some (.builtin "object.__setattr__"))) (iC : findIn K (.ref C) "__init__" = some (some (.ref fI)))
    (tI : typeIn K (.ref fI) = some (.type "function")) (kC : keepIn K (.ref C) = true) (ga : findIn K (.ref C) "__getattribute__" = some (some (.builtin "BaseException.__getattribute__"))) (gg : findIn K (.ref C) "__getattr__" = some none)
    (ex : subIn K (.ref C) (.type "BaseException") = some true) (hd : hasDictIn K C = true) : XCls K C fI bmB newId := ⟨b, q, ov, sa, iC, tI, kC, ⟨ga, gg, ex, hd⟩⟩
theorem xcb1_of (hm : mg cn = some (.ref C)) (T : XCls K C fI bmB newId) (ty : typeIn K (.ref C) = some (.type "type")) (hno : findIn K (.ref C) g = some none)
    (l : K.lookup fI = some ⟨oc, od, .func (fnOf x qual (defArgs st) (defBody st) (defScope st) .none kV doc pm an cdv ct), osl⟩) (c : codeIn K cdv qual = true) (k : keepIn K (.ref fI) = true) (S : FnScope ["self", g] ["self", g] (defScope st))
    (hb : defBody st = [.Assign [.Attribute (.Name "self" p1) g p2] (.Name g p3) p4])
    (hbd : ∀ (kV doc pm : Value) (an : Option Addr) (cdv ct : Value) (us : List Value), us.length = 2 → bindArgs (fnOf x qual (defArgs st) (defBody st) (defScope st) .none kV doc pm an cdv ct) ⟨us, []⟩ = pure (List.zip (["self", g] : List Str) us))
    (hs : (g == ("__debug__" : Str)) = false := by decide) (hc : (g == ("__classdict__" : Str)) = false := by decide) : XcB P w K mg base cn 1 (fD1 g) :=
  ⟨C, fI, _, ["self", g], bmB, newId, _, hm, T, ty, mkf1, fn_spX1 T hno (fun_mk l c k) S hb hs hc, (fun_mk l c k).binds hbd, rfl, by decide⟩
theorem xcb2_of (hm : mg cn = some (.ref C)) (T : XCls K C fI bmB newId) (ty : typeIn K (.ref C) = some (.type "type")) (hno : findIn K (.ref C) g = some none) (hno2 : findIn K (.ref C) g2 = some none)
    (l : K.lookup fI = some ⟨oc, od, .func (fnOf x qual (defArgs st) (defBody st) (defScope st) .none kV doc pm an cdv ct), osl⟩) (c : codeIn K cdv qual = true) (k : keepIn K (.ref fI) = true) (S : FnScope ["self", g, g2] ["self", g, g2] (defScope st))
    (hb : defBody st = [.Assign [.Attribute (.Name "self" p1) g p2] (.Name g p3) p4, .Assign [.Attribute (.Name "self" q1) g2 q2] (.Name g2 q3) q4])
    (hbd : ∀ (kV doc pm : Value) (an : Option Addr) (cdv ct : Value) (us : List Value), us.length = 3 → bindArgs (fnOf x qual (defArgs st) (defBody st) (defScope st) .none kV doc pm an cdv ct) ⟨us, []⟩ = pure (List.zip (["self", g, g2] : List Str) us))
    (hs : (g == ("__debug__" : Str)) = false := by decide) (hc : (g == ("__classdict__" : Str)) = false := by decide) (hs2 : (g2 == ("__debug__" : Str)) = false := by decide) (hc2 : (g2 == ("__classdict__" : Str)) = false := by decide) : XcB P w K mg base cn 2 (fD2 g g2) :=
  ⟨C, fI, _, ["self", g, g2], bmB, newId, _, hm, T, ty, mkf2, fn_spX2 T hno hno2 (fun_mk l c k) S hb hs hc hs2 hc2, (fun_mk l c k).binds hbd, rfl, by decide⟩
/-- both: by position, by keywords -/
theorem xck1_of (hm : mg cn = some (.ref C)) (T : XCls K C fI bmB newId) (ty : typeIn K (.ref C) = some (.type "type")) (hno : findIn K (.ref C) g = some none)
    (l : K.lookup fI = some ⟨oc, od, .func (fnOf x qual (defArgs st) (defBody st) (defScope st) .none kV doc pm an cdv ct), osl⟩) (c : codeIn K cdv qual = true) (k : keepIn K (.ref fI) = true) (S : FnScope ["self", g] ["self", g] (defScope st))
    (hb : defBody st = [.Assign [.Attribute (.Name "self" p1) g p2] (.Name g p3) p4])
    (hbd : ∀ (kV doc pm : Value) (an : Option Addr) (cdv ct : Value) (us : List Value), us.length = 2 → bindArgs (fnOf x qual (defArgs st) (defBody st) (defScope st) .none kV doc pm an cdv ct) ⟨us, []⟩ = pure (List.zip (["self", g] : List Str) us))
    (hbk : ∀ (kV doc pm : Value) (an : Option Addr) (cdv ct : Value) (us ws : List Value), us.length = 1 → ws.length = 1 → bindArgs (fnOf x qual (defArgs st) (defBody st) (defScope st) .none kV doc pm an cdv ct) ⟨us, List.zip ([g] : List Str) ws⟩ = pure (List.zip (["self", g] : List Str) (us ++ pick [0] ws)))
    (hs : (g == ("__debug__" : Str)) = false := by decide) (hc : (g == ("__classdict__" : Str)) = false := by decide) : XcB P w K mg base cn 1 (fD1 g) ∧ XkB P w K mg base cn 1 [g] [0] (fD1 g) :=
  ⟨⟨C, fI, _, ["self", g], bmB, newId, _, hm, T, ty, mkf1, fn_spX1 T hno (fun_mk l c k) S hb hs hc, (fun_mk l c k).binds hbd, rfl, by decide⟩,
    ⟨C, fI, _, ["self", g], bmB, newId, _, hm, T, mkf1, fn_spX1 T hno (fun_mk l c k) S hb hs hc, kbn_of 1 (hbk kV doc pm an cdv ct)⟩⟩
theorem xck2_of (hm : mg cn = some (.ref C)) (T : XCls K C fI bmB newId) (ty : typeIn K (.ref C) = some (.type "type")) (hno : findIn K (.ref C) g = some none) (hno2 : findIn K (.ref C) g2 = some none)
    (l : K.lookup fI = some ⟨oc, od, .func (fnOf x qual (defArgs st) (defBody st) (defScope st) .none kV doc pm an cdv ct), osl⟩) (c : codeIn K cdv qual = true) (k : keepIn K (.ref fI) = true) (S : FnScope ["self", g, g2] ["self", g, g2] (defScope st))
    (hb : defBody st = [.Assign [.Attribute (.Name "self" p1) g p2] (.Name g p3) p4, .Assign [.Attribute (.Name "self" q1) g2 q2] (.Name g2 q3) q4])
    (hbd : ∀ (kV doc pm : Value) (an : Option Addr) (cdv ct : Value) (us : List Value), us.length = 3 → bindArgs (fnOf x qual (defArgs st) (defBody st) (defScope st) .none kV doc pm an cdv ct) ⟨us, []⟩ = pure (List.zip (["self", g, g2] : List Str) us))
    (hbk : ∀ (kV doc pm : Value) (an : Option Addr) (cdv ct : Value) (us ws : List Value), us.length = 1 → ws.length = 2 → bindArgs (fnOf x qual (defArgs st) (defBody st) (defScope st) .none kV doc pm an cdv ct) ⟨us, List.zip ([g2, g] : List Str) ws⟩ = pure (List.zip (["self", g, g2] : List Str) (us ++ pick [1, 0] ws)))
    (hs : (g == ("__debug__" : Str)) = false := by decide) (hc : (g == ("__classdict__" : Str)) = false := by decide) (hs2 : (g2 == ("__debug__" : Str)) = false := by decide) (hc2 : (g2 == ("__classdict__" : Str)) = false := by decide) : XcB P w K mg base cn 2 (fD2 g g2) ∧ XkB P w K mg base cn 2 [g2, g] [1, 0] (fD2 g g2) :=
  ⟨⟨C, fI, _, ["self", g, g2], bmB, newId, _, hm, T, ty, mkf2, fn_spX2 T hno hno2 (fun_mk l c k) S hb hs hc hs2 hc2, (fun_mk l c k).binds hbd, rfl, by decide⟩,
    ⟨C, fI, _, ["self", g, g2], bmB, newId, _, hm, T, mkf2, fn_spX2 T hno hno2 (fun_mk l c k) S hb hs hc hs2 hc2, kbn_of 1 (hbk kV doc pm an cdv ct)⟩⟩
end
/-- the def number j of the class that is number i of a program -/
def metOf (P : Program) (i j : Nat) : Stmt := match P.main.body.getD i (.Pass ⟨0, 0, 0, 0⟩) with
  | .ClassDef _ _ _ b _ _ _ _ _ _ _ => b.getD j (.Pass ⟨0, 0, 0, 0⟩)
  | s => s
end DL

set_option Elab.async false
set_option linter.all false
set_option maxRecDepth 100000
set_option maxHeartbeats 4000000
/-! DX9: tables of classes, one class after another. -/
namespace DL
open PySem PySem.Spec PyProof.Rows PySem.W PySem.Calls L2
section
variable {K : Frag} {mg : Str → Option Value} {p : Addr → Prop} {l : List Str} {cn f : Str} {C : Addr} {m : Value → Option Bool} {cat : Str → Option Bool}
structure Each (mg : Str → Option Value) (p : Addr → Prop) (l : List Str) : Prop where
  go : ∀ cn ∈ l, ∀ C : Addr, mg cn = some (.ref C) → p C
theorem each_nil : Each mg p [] := ⟨fun _ h => by cases h⟩
theorem each_cons (hm : mg cn = some (.ref C)) (x : p C) (t : Each mg p l) : Each mg p (cn :: l) := ⟨fun c h C' q => by
  rcases List.mem_cons.mp h with rfl | h
  · rw [hm] at q; cases q; exact x
  · exact t.go _ h _ q⟩
theorem xtab_of (t : Each mg (fun C => XfC K C ∧ findIn K (.ref C) f = some none) l) : XTab K mg l f := ⟨t.go⟩
theorem catb_of (t : Each mg (fun C => m (.ref C) = some true) l) (h : ∀ c b, cat c = some b → c ∈ l ∧ b = true) : CatB mg m cat := ⟨fun cn C b hm hc => by
  obtain ⟨h1, h2⟩ := h cn b hc
  rw [h2]
  exact t.go cn h1 C hm⟩
theorem cat_in {l : List Str} (c : Str) (b : Bool) (h : (if c ∈ l then some true else none) = some b) : c ∈ l ∧ b = true := by
  split at h
  · cases h; exact ⟨by assumption, rfl⟩
  · cases h
theorem catb_ex {x : Str} {l : List Str} (hm : mg x = some (.ref C)) (t : Each mg (fun C' => exmOne K (.ref C') (.ref C) = some true) l) (h : ∀ c b, cat c = some b → c ∈ l ∧ b = true) :
    ∃ C : Addr, mg x = some (.ref C) ∧ CatB mg (fun cls => exmOne K cls (.ref C)) cat := ⟨C, hm, catb_of (m := fun cls => exmOne K cls (.ref C)) t h⟩
theorem each_skip (hm : mg cn = none) (t : Each mg p l) : Each mg p (cn :: l) := ⟨fun c h C' q => by
  rcases List.mem_cons.mp h with rfl | h
  · rw [hm] at q; cases q
  · exact t.go _ h _ q⟩
theorem kinds_of {ins exc : List Str} (a : Each mg (InsT K) ins) (b : Each mg (ExcT K) exc) : Kinds K mg ins exc := ⟨a.go, b.go⟩
end
end DL

set_option Elab.async false
set_option linter.all false
set_option maxRecDepth 100000
set_option maxHeartbeats 4000000
/-! DE2: defs by their facts; a law row's end over data. -/
namespace DL
open PySem PySem.Spec PyProof.Rows PySem.W L2
/-- the def x of the text, as the top has made it -/
structure DfB (K : Frag) (mg : Str → Option Value) (x qual : Str) (st : Stmt) (ps : List Str) : Prop where
  ex : ∃ f fd, mg x = some (.ref f) ∧ Fun K x qual st f fd ∧ ∀ us : List Value, us.length = ps.length → bindArgs fd ⟨us, []⟩ = pure (ps.zip us)
section
variable {P : Program} {w : World} {K : Frag} {mg : Str → Option Value} {base : Heap} {T : List (Addr × Str)} {x qual : Str} {st : Stmt} {f : Addr} {N ps : List Str} {k : Nat} {g : M Out} {oc : Value} {od an : Option Addr} {osl : Array (Option Value)} {kV doc pm cdv ct : Value}
theorem df_of (hm : mg x = some (.ref f)) (l : K.lookup f = some ⟨oc, od, .func (fnOf x qual (defArgs st) (defBody st) (defScope st) .none kV doc pm an cdv ct), osl⟩) (c : codeIn K cdv qual = true) (k : keepIn K (.ref f) = true)
    (hbd : ∀ (kV doc pm : Value) (an : Option Addr) (cdv ct : Value) (us : List Value), us.length = ps.length → bindArgs (fnOf x qual (defArgs st) (defBody st) (defScope st) .none kV doc pm an cdv ct) ⟨us, []⟩ = pure (ps.zip us)) : DfB K mg x qual st ps :=
  ⟨f, _, hm, fun_mk l c k, hbd kV doc pm an cdv ct⟩
theorem cal_of (d : DfB K mg x qual st ps) (S : FnScope N ps (defScope st))
    (hbody : ∀ (f : Addr) (cdv : Value) (A : Around) (outer : List Env) (s : Shared) (H : Hp) (E : XK) (c : Fc), c.K = K → c.mg = mg → c.T = T → Fit (cxOf (L2.CX P w) P w K mg base N qual (defScope st) f cdv A outer s H E) c → Room k (A.deeper (envOfC qual (defScope st) s.heap.objs.size f cdv)) →
      DSs (cxOf (L2.CX P w) P w K mg base N qual (defScope st) f cdv A outer s H E) c (defBody st) g) :
    Cal P w K mg base T x (k + 1) ps.length fun ds => resD (g (slots N.length (ds.map .im))) := by
  obtain ⟨f, fd, hm, F, hb⟩ := d.ex
  exact ⟨f, fd, ps, hm, fn_spD F S fun cdv A ou s H E c => hbody f cdv A ou s H E c, F.kp, .all hb⟩
theorem calG_of (d : DfB K mg x qual st ps) (S : FnScope N ps (defScope st))
    (hbody : ∀ (f : Addr) (cdv : Value) (A : Around) (outer : List Env) (s : Shared) (H : Hp) (E : XK) (c : Fc), c.K = K → c.mg = mg → c.T = T → Fit (cxOf (L2.CX P w) P w K mg base N qual (defScope st) f cdv A outer s H E) c → A.guards = some [] → Room k (A.deeper (envOfC qual (defScope st) s.heap.objs.size f cdv)) →
      DSs (cxOf (L2.CX P w) P w K mg base N qual (defScope st) f cdv A outer s H E) c (defBody st) g) :
    CalG P w K mg base T x (k + 1) ps.length fun ds => resD (g (slots N.length (ds.map .im))) := by
  obtain ⟨f, fd, hm, F, hb⟩ := d.ex
  exact ⟨f, fd, ps, hm, fnG_spD F S fun cdv A ou s H E c h1 h2 h3 h4 h5 h6 => hbody f cdv A ou s H E c h1 h2 h3 h4 h6 h5, F.kp, .all hb⟩
/-- a promise weakened -/
theorem FnG.imp {fd : FuncData} {sp sp' : Sp} (F : FnG P w K mg base k f fd ps sp) (h : ∀ vs H Q E, sp' vs H Q E → sp vs H Q E) : FnG P w K mg base k f fd ps sp' :=
  ⟨fun vs H Q E q => F.len vs H Q E (h _ _ _ _ q), fun A ou s H args us vs Q E h1 h2 h3 h4 h5 q => F.go A ou s H args us vs Q E h1 h2 h3 h4 h5 (h _ _ _ _ q)⟩
/-- the law's promise, without the module's names -/
def spTrue (K : Frag) (n : Nat) : Sp := fun vs H Q _ => ∃ (a : Addr) (ns : List Int), vs = [.ref a] ∧ ns.length ≤ n ∧ Only H ∧ SqL K H a (ns.map V.int) ∧ ∀ H', Q (.bl true) H'
theorem dts_ints {F : Hp} (ns : List Int) : Dts K mg F (ns.map V.int) (ns.map D.int) := by
  induction ns with
  | nil => exact .nil
  | cons i ns ih => exact .cons (.int i) ih
theorem spTrue_imp {n : Nat} {fn : List D → Res D} (ht : ∀ ns : List Int, ns.length ≤ n → fn [.rol (ns.map .int)] = .ok (.bl true)) (vs : List V) (H : Hp) (Q : VK) (E : XK) (h : spTrue K n vs H Q E) : spD K mg [] 1 fn vs H Q E := by
  obtain ⟨a, ns, rfl, hl, hO, hS, hq⟩ := h
  refine ⟨H, [.rol (ns.map .int)], ⟨fun _ hp => (by cases hp), fun _ hp => (by cases hp), .refl H⟩, .cons (.rol hS (dts_ints ns)) .nil, rfl, ?_⟩
  rw [ht ns hl]
  intro v F' H' _ d
  cases d
  exact hq H'
end
theorem walkD {l : OpenLaw} {n k : Nat} {q : Program} {loose : List Str} {XP : (Str → Option Value) → Heap → Prop} {YP : World → Heap → Prop} {d : DefRec} {K : Params → Frag} {x qual : Str} {st : Stmt} {N : List Str} {g : M Out} (hn : l.most = some n) (hn2 : n ≤ sizeLine) (hdf : d.params.defaults = []) (hr : Room (k + 1) callerA)
    (hY : ∀ (w : World) (h : Heap), YP w h → (K w.params).In h) (S : FnScope N [x] (defScope st))
    (D : ∀ (w : World) (mg : Str → Option Value) (h : Heap), (K w.params).In h → h.Ns mainGlobals mg → DfB (K w.params) mg d.name qual st [x])
    (B : ∀ (w : World) (mg : Str → Option Value) (base : Heap), (K w.params).In base → base.Ns mainGlobals mg → ∀ (f : Addr) (cdv : Value) (A : Around) (outer : List Env) (s : Shared) (H : Hp) (E : XK) (c : Fc), c.K = K w.params → c.mg = mg → c.T = [] → Fit (cxOf (L2.CX l.prog w) l.prog w (K w.params) mg base N qual (defScope st) f cdv A outer s H E) c → A.guards = some [] → Room k (A.deeper (envOfC qual (defScope st) s.heap.objs.size f cdv)) →
      DSs (cxOf (L2.CX l.prog w) l.prog w (K w.params) mg base N qual (defScope st) f cdv A outer s H E) c (defBody st) g)
    (ht : ∀ ns : List Int, ns.length ≤ n → resD (g (slots N.length [.im (.rol (ns.map .int))])) = .ok (.bl true)) :
    WalkO q loose XP YP l.row.toRowW d [] (fun f vs => PySem.call f vs) := by
  refine walkG (k := k + 1) (x := x) (sp := fun w => spTrue (K w.params) n) hn hn2 hdf hr hY (fun w mg fa h KX G hm => ?_) fun w H a ns hl hO hS => ⟨a, ns, rfl, hl, hO, hS, fun _ => rfl⟩
  obtain ⟨f, fd, hm2, F, hb⟩ := (D w mg h KX G).ex
  rw [hm] at hm2
  cases hm2
  refine ⟨fd, fun s u => .of_eq (hb [u] rfl), fun base KX2 G2 => ?_⟩
  have Fn := fnG_spD (w := w) (P := l.prog) (mg := mg) (base := base) (T := []) (k := k) (g := g) F S fun cdv A ou s H E c h1 h2 h3 h4 h5 h6 => B w mg base KX2 G2 fa cdv A ou s H E c h1 h2 h3 h4 h6 h5
  exact Fn.imp (spTrue_imp (fn := fun ds => resD (g (slots N.length (ds.map .im)))) ht)
end DL

set_option Elab.async false
set_option linter.all false
set_option maxRecDepth 100000
set_option maxHeartbeats 4000000
/-! DE3: the table of types by its facts; constants of the module. -/
namespace DL
open PySem PySem.Spec PyProof.Rows PySem.W L2
def tyB : Ty → Ty → Bool
  | .inl a, .inl b => decide (a = b)
  | .inr a, .inr b => decide (a = b)
  | _, _ => false
def upB (ups : Str → List Ty) (e : Str) (c : Ty) : Bool := (ups e).any fun u => tyB u c
def plB (a b : String) : Bool := decide (a = b) || (decide (a = "bool") && decide (b = "int"))
/-- a type of the left kind is under one of the right kind, as far as it is told -/
def ktOf (ups : Str → List Ty) (own usedO : List Str) (usedB plain : List String) : KT := fun t c => match t, c with
  | .inr e, .inl b => if e ∈ own ∧ b ∈ usedB then some (upB ups e (.inl b)) else none
  | .inr e, .inr b => if e ∈ own ∧ b ∈ usedO then some (upB ups e (.inr b)) else none
  | .inl a, .inl b => if a ∈ plain ∧ b ∈ usedB then some (plB a b) else none
  | .inl a, .inr b => if a ∈ plain ∧ b ∈ usedO then some false else none
section
variable {K : Frag} {mg : Str → Option Value} {l : List Str} {cn x : Str} {C : Addr} {ups : Str → List Ty} {own usedO : List Str} {usedB plain : List String}
/-- all names of a list are classes of the text with p -/
structure EachX (mg : Str → Option Value) (p : Str → Addr → Prop) (l : List Str) : Prop where
  go : ∀ cn ∈ l, ∃ C : Addr, mg cn = some (.ref C) ∧ p cn C
theorem eachX_nil {p : Str → Addr → Prop} : EachX mg p [] := ⟨fun _ h => by cases h⟩
theorem eachX_cons {p : Str → Addr → Prop} (hm : mg cn = some (.ref C)) (x : p cn C) (t : EachX mg p l) : EachX mg p (cn :: l) := ⟨fun c h => by
  rcases List.mem_cons.mp h with rfl | h
  · exact ⟨C, hm, x⟩
  · exact t.go _ h⟩
theorem ktRow {cv : Value} {c : Ty} (hm : mg cn = some (.ref C)) (b : Bool) (x : kitOne K (.ref C) cv = some b) (e : upB ups cn c = b) (t : EachX mg (fun e C => kitOne K (.ref C) cv = some (upB ups e c)) l) : EachX mg (fun e C => kitOne K (.ref C) cv = some (upB ups e c)) (cn :: l) :=
  eachX_cons hm (by rw [e]; exact x) t
theorem allm_nil {α : Type} {p : α → Prop} : ∀ b ∈ ([] : List α), p b := fun _ h => by cases h
theorem allm_cons {α : Type} {p : α → Prop} {a : α} {l : List α} (h : p a) (t : ∀ b ∈ l, p b) : ∀ b ∈ a :: l, p b := fun b hb => by
  rcases List.mem_cons.mp hb with rfl | hb
  · exact h
  · exact t b hb
/-- what is known of a class of the text that isinstance names -/
structure KtC (K : Frag) (mg : Str → Option Value) (ups : Str → List Ty) (own : List Str) (plain : List String) (b : Str) : Prop where
  ex : ∃ Cb : Addr, mg b = some (.ref Cb) ∧ EachX mg (fun e C => kitOne K (.ref C) (.ref Cb) = some (upB ups e (.inr b))) own ∧ ∀ a ∈ plain, kitOne K (.type a) (.ref Cb) = some false
theorem ktC_of {b : Str} {Cb : Addr} (hm : mg b = some (.ref Cb)) (hr : EachX mg (fun e C => kitOne K (.ref C) (.ref Cb) = some (upB ups e (.inr b))) own) (hp : ∀ a ∈ plain, kitOne K (.type a) (.ref Cb) = some false) : KtC K mg ups own plain b := ⟨Cb, hm, hr, hp⟩
structure KtT (K : Frag) (mg : Str → Option Value) (ups : Str → List Ty) (own : List Str) (plain : List String) (b : String) : Prop where
  o : EachX mg (fun e C => kitOne K (.ref C) (.type b) = some (upB ups e (.inl b))) own
  p : ∀ a ∈ plain, kitOne K (.type a) (.type b) = some (plB a b)
theorem ktok_of (hO : ∀ b ∈ usedO, KtC K mg ups own plain b) (hB : ∀ b ∈ usedB, KtT K mg ups own plain b) : KtOk K mg (ktOf ups own usedO usedB plain) := fun t c b e tv cv ht hc => by
  unfold ktOf at e
  cases t with
  | inl a =>
    have ht : tv = .type a := ht
    subst ht
    cases c with
    | inl b' =>
      have hc : cv = .type b' := hc
      subst hc
      simp only at e
      split at e
      · next h => cases e; exact (hB b' h.2).p a h.1
      · cases e
    | inr b' =>
      have hc : mg b' = some cv := hc
      simp only at e
      split at e
      · next h =>
        cases e
        obtain ⟨Cb, h1, _, h3⟩ := (hO b' h.2).ex
        rw [hc] at h1
        cases h1
        exact h3 a h.1
      · cases e
  | inr a =>
    have ht : mg a = some tv := ht
    cases c with
    | inl b' =>
      have hc : cv = .type b' := hc
      subst hc
      simp only at e
      split at e
      · next h =>
        cases e
        obtain ⟨C, h1, h2⟩ := (hB b' h.2).o.go a h.1
        rw [ht] at h1
        cases h1
        exact h2
      · cases e
    | inr b' =>
      have hc : mg b' = some cv := hc
      simp only at e
      split at e
      · next h =>
        cases e
        obtain ⟨Cb, h1, h2, _⟩ := (hO b' h.2).ex
        rw [hc] at h1
        cases h1
        obtain ⟨C, g1, g2⟩ := h2.go a h.1
        rw [ht] at g1
        cases g1
        exact g2
      · cases e
theorem each_ex {p : Addr → Prop} (h : ∃ C : Addr, mg cn = some (.ref C) ∧ p C) (t : Each mg p l) : Each mg p (cn :: l) := h.elim fun _ h => each_cons h.1 h.2 t
/-! constants -/
theorem con_int {i : Int} {n : Nat} (hm : mg x = some (.int i n)) : Con K mg x (.int i) := ⟨.int i, .int i n, hm, ⟨n, rfl⟩, fun F => .int i⟩
end
end DL

set_option Elab.async false
set_option linter.all false
set_option maxRecDepth 100000
set_option maxHeartbeats 4000000
namespace KX
open PySem PySem.Spec PyProof.Rows L2 DL
def top (i : Nat) : Stmt := PySem.Challenge.pw_braidwords_k01_limits_and_errors.main.body.getD i (.Pass ⟨0, 0, 0, 0⟩)
def ins : List Str := ["Mirrors"]
def exc : List Str := ["NotRight", "InvalidText", "InvalidNumber", "InvalidName", "InvalidIndex", "InvalidWord", "InvalidLetter", "InvalidLot", "InvalidClaim", "InvalidCommand", "NotMirrors", "InvalidAngles", "InvalidRow", "InvalidRows", "InvalidUnknown", "InvalidTold", "NotKnown", "UnknownName", "InUse", "NothingToUndo", "NotPossible", "NotAlike", "NotShortest", "NoMove", "TooMany", "Broken"]
def ups (c : Str) : List DL.Ty :=
  if c = "NotRight" then [.inr "NotRight", .inl "ValueError"] else
  if c = "InvalidText" then [.inr "InvalidText", .inr "NotRight", .inl "ValueError"] else
  if c = "InvalidNumber" then [.inr "InvalidNumber", .inr "NotRight", .inl "ValueError"] else
  if c = "InvalidName" then [.inr "InvalidName", .inr "NotRight", .inl "ValueError"] else
  if c = "InvalidIndex" then [.inr "InvalidIndex", .inr "NotRight", .inl "ValueError"] else
  if c = "InvalidWord" then [.inr "InvalidWord", .inr "NotRight", .inl "ValueError"] else
  if c = "InvalidLetter" then [.inr "InvalidLetter", .inr "NotRight", .inl "ValueError"] else
  if c = "InvalidLot" then [.inr "InvalidLot", .inr "NotRight", .inl "ValueError"] else
  if c = "InvalidClaim" then [.inr "InvalidClaim", .inr "NotRight", .inl "ValueError"] else
  if c = "InvalidCommand" then [.inr "InvalidCommand", .inr "NotRight", .inl "ValueError"] else
  if c = "NotMirrors" then [.inr "NotMirrors", .inr "NotRight", .inl "ValueError"] else
  if c = "InvalidAngles" then [.inr "InvalidAngles", .inr "NotRight", .inl "ValueError"] else
  if c = "InvalidRow" then [.inr "InvalidRow", .inr "NotRight", .inl "ValueError"] else
  if c = "InvalidRows" then [.inr "InvalidRows", .inr "NotRight", .inl "ValueError"] else
  if c = "InvalidUnknown" then [.inr "InvalidUnknown", .inr "NotRight", .inl "ValueError"] else
  if c = "InvalidTold" then [.inr "InvalidTold", .inr "NotRight", .inl "ValueError"] else
  if c = "NotKnown" then [.inr "NotKnown", .inl "LookupError"] else
  if c = "UnknownName" then [.inr "UnknownName", .inr "NotKnown", .inl "LookupError"] else
  if c = "InUse" then [.inr "InUse", .inr "NotKnown", .inl "LookupError"] else
  if c = "NothingToUndo" then [.inr "NothingToUndo", .inr "NotKnown", .inl "LookupError"] else
  if c = "NotPossible" then [.inr "NotPossible", .inl "ArithmeticError"] else
  if c = "NotAlike" then [.inr "NotAlike", .inr "NotPossible", .inl "ArithmeticError"] else
  if c = "NotShortest" then [.inr "NotShortest", .inr "NotPossible", .inl "ArithmeticError"] else
  if c = "NoMove" then [.inr "NoMove", .inr "NotPossible", .inl "ArithmeticError"] else
  if c = "TooMany" then [.inr "TooMany", .inr "NotPossible", .inl "ArithmeticError"] else
  if c = "Broken" then [.inr "Broken", .inr "NotPossible", .inl "ArithmeticError"] else []
def usedO : List Str := ["NotKnown", "NotPossible", "NotRight"]
def usedB : List String := ["ArithmeticError", "LookupError", "ValueError"]
def own : List Str := ["NotRight", "InvalidText", "InvalidNumber", "InvalidName", "InvalidIndex", "InvalidWord", "InvalidLetter", "InvalidLot", "InvalidClaim", "InvalidCommand", "NotMirrors", "InvalidAngles", "InvalidRow", "InvalidRows", "InvalidUnknown", "InvalidTold", "NotKnown", "UnknownName", "InUse", "NothingToUndo", "NotPossible", "NotAlike", "NotShortest", "NoMove", "TooMany", "Broken"]
def plainTys : List String := []
/-- a type of the left kind is under one of the right kind, as far as it is told -/
def kt : DL.KT := DL.ktOf ups own usedO usedB plainTys
def K_MOST_LETTERS : D := (.int 6)
def K_MOST_WORD : D := (.int 60)
def K_MOST_LENGTH : D := (.int 200)
def K_MOST_WORDS : D := (.int 3000)
def K_MOST_UNKNOWN : D := (.int 3)
def K_MOST_TOLD : D := (.int 20)
def cat_NotKnown (c : Str) : Option Bool := if c ∈ (["InUse", "NothingToUndo", "UnknownName"] : List Str) then some true else none
def cat_NotRight (c : Str) : Option Bool := if c ∈ (["InvalidAngles", "InvalidClaim", "InvalidCommand", "InvalidIndex", "InvalidLetter", "InvalidLot", "InvalidName", "InvalidNumber", "InvalidRow", "InvalidRows", "InvalidText", "InvalidTold", "InvalidUnknown", "InvalidWord", "NotMirrors"] : List Str) then some true else none
def cat_NotPossible (c : Str) : Option Bool := if c ∈ (["Broken", "NoMove", "NotAlike", "NotShortest", "TooMany"] : List Str) then some true else none
abbrev s__law_every : Stmt := top 34
theorem sc__law_every : FnScope ["thing", "other_thing", "found"] ["thing", "other_thing"] (defScope s__law_every) := ⟨rfl, rfl, rfl, by decide +kernel, rfl, by decide +kernel, by decide +kernel⟩
def b__law_every : { g : M Out // ∀ (P : Program) (w : World) (K : PySem.W.Frag) (mg : Str → Option Value) (base : Heap) (T : List (Addr × Str)) (f : Addr) (x_Broken : XcB P w K mg base "Broken" 2 (fD2 "index" "shown")) (x_InUse : XcB P w K mg base "InUse" 1 (fD1 "index")) (x_InvalidAngles : XcB P w K mg base "InvalidAngles" 1 (fD1 "index")) (x_InvalidClaim : XcB P w K mg base "InvalidClaim" 1 (fD1 "given")) (x_InvalidCommand : XcB P w K mg base "InvalidCommand" 1 (fD1 "given")) (x_InvalidIndex : XcB P w K mg base "InvalidIndex" 1 (fD1 "given")) (x_InvalidLetter : XcB P w K mg base "InvalidLetter" 1 (fD1 "given")) (x_InvalidLot : XcB P w K mg base "InvalidLot" 1 (fD1 "given")) (x_InvalidName : XcB P w K mg base "InvalidName" 1 (fD1 "given")) (x_InvalidNumber : XcB P w K mg base "InvalidNumber" 1 (fD1 "given")) (x_InvalidRow : XcB P w K mg base "InvalidRow" 1 (fD1 "index")) (x_InvalidRows : XcB P w K mg base "InvalidRows" 1 (fD1 "index")) (x_InvalidText : XcB P w K mg base "InvalidText" 1 (fD1 "given")) (x_InvalidTold : XcB P w K mg base "InvalidTold" 1 (fD1 "index")) (x_InvalidUnknown : XcB P w K mg base "InvalidUnknown" 1 (fD1 "index")) (x_InvalidWord : XcB P w K mg base "InvalidWord" 1 (fD1 "given")) (x_NotAlike : XcB P w K mg base "NotAlike" 1 (fD1 "letter")) (x_NotMirrors : XcB P w K mg base "NotMirrors" 1 (fD1 "given")) (x_NotShortest : XcB P w K mg base "NotShortest" 1 (fD1 "indexes")) (x_TooMany : XcB P w K mg base "TooMany" 1 (fD1 "most")) (x_UnknownName : XcB P w K mg base "UnknownName" 1 (fD1 "given")) (z_NoMove : X0B P w K mg base "NoMove") (z_NothingToUndo : X0B P w K mg base "NothingToUndo") (cdv : Value) (A : Around) (outer : List Env) (s : Shared) (H : Hp) (E : XK) (c : Fc) (hK : c.K = K) (hM : c.mg = mg) (hT : c.T = T) (fx : Fit (cxOf (L2.CX P w) P w K mg base ["thing", "other_thing", "found"] "_law_every" (defScope s__law_every) f cdv A outer s H E) c) (hr : Room 2 (A.deeper (envOfC "_law_every" (defScope s__law_every) s.heap.objs.size f cdv))), DSs (cxOf (L2.CX P w) P w K mg base ["thing", "other_thing", "found"] "_law_every" (defScope s__law_every) f cdv A outer s H E) c (defBody s__law_every) g } :=
  ⟨_, fun P w K mg base T f x_Broken x_InUse x_InvalidAngles x_InvalidClaim x_InvalidCommand x_InvalidIndex x_InvalidLetter x_InvalidLot x_InvalidName x_InvalidNumber x_InvalidRow x_InvalidRows x_InvalidText x_InvalidTold x_InvalidUnknown x_InvalidWord x_NotAlike x_NotMirrors x_NotShortest x_TooMany x_UnknownName z_NoMove z_NothingToUndo cdv A outer s H E c hK hM hT fx hr => (dss_cons (ds_asg (de_lst (da_cons (de_lst (da_cons (de_xmkC fx x_InvalidText hr (by decide) rfl (da_cons (de_v 0) da_nil)) (da_cons de_str da_nil))) (da_cons (de_lst (da_cons (de_xmkC fx x_InvalidNumber hr (by decide) rfl (da_cons (de_v 0) da_nil)) (da_cons de_str da_nil))) (da_cons (de_lst (da_cons (de_xmkC fx x_InvalidName hr (by decide) rfl (da_cons (de_v 0) da_nil)) (da_cons de_str da_nil))) da_nil)))) (dg_name (i := 2) sc__law_every.nd rfl (by first | exact .inl rfl | exact .inr rfl | exact .inr (.inl rfl)))) (dss_cons (ds_asg (de_add fx (de_v 2) (de_lst (da_cons (de_lst (da_cons (de_xmkC fx x_InvalidIndex hr (by decide) rfl (da_cons (de_v 0) da_nil)) (da_cons de_str da_nil))) (da_cons (de_lst (da_cons (de_xmkC fx x_InvalidWord hr (by decide) rfl (da_cons (de_v 0) da_nil)) (da_cons de_str da_nil))) (da_cons (de_lst (da_cons (de_xmkC fx x_InvalidLetter hr (by decide) rfl (da_cons (de_v 0) da_nil)) (da_cons de_str da_nil))) da_nil))))) (dg_name (i := 2) sc__law_every.nd rfl (by first | exact .inl rfl | exact .inr rfl | exact .inr (.inl rfl)))) (dss_cons (ds_asg (de_add fx (de_v 2) (de_lst (da_cons (de_lst (da_cons (de_xmkC fx x_InvalidLot hr (by decide) rfl (da_cons (de_v 0) da_nil)) (da_cons de_str da_nil))) (da_cons (de_lst (da_cons (de_xmkC fx x_InvalidClaim hr (by decide) rfl (da_cons (de_v 0) da_nil)) (da_cons de_str da_nil))) (da_cons (de_lst (da_cons (de_xmkC fx x_InvalidCommand hr (by decide) rfl (da_cons (de_v 0) da_nil)) (da_cons de_str da_nil))) da_nil))))) (dg_name (i := 2) sc__law_every.nd rfl (by first | exact .inl rfl | exact .inr rfl | exact .inr (.inl rfl)))) (dss_cons (ds_asg (de_add fx (de_v 2) (de_lst (da_cons (de_lst (da_cons (de_xmkC fx x_NotMirrors hr (by decide) rfl (da_cons (de_v 0) da_nil)) (da_cons de_str da_nil))) (da_cons (de_lst (da_cons (de_xmkC fx x_InvalidAngles hr (by decide) rfl (da_cons (de_v 0) da_nil)) (da_cons de_str da_nil))) (da_cons (de_lst (da_cons (de_xmkC fx x_InvalidRow hr (by decide) rfl (da_cons (de_v 0) da_nil)) (da_cons de_str da_nil))) da_nil))))) (dg_name (i := 2) sc__law_every.nd rfl (by first | exact .inl rfl | exact .inr rfl | exact .inr (.inl rfl)))) (dss_cons (ds_asg (de_add fx (de_v 2) (de_lst (da_cons (de_lst (da_cons (de_xmkC fx x_InvalidRows hr (by decide) rfl (da_cons (de_v 0) da_nil)) (da_cons de_str da_nil))) (da_cons (de_lst (da_cons (de_xmkC fx x_InvalidUnknown hr (by decide) rfl (da_cons (de_v 0) da_nil)) (da_cons de_str da_nil))) (da_cons (de_lst (da_cons (de_xmkC fx x_InvalidTold hr (by decide) rfl (da_cons (de_v 0) da_nil)) (da_cons de_str da_nil))) da_nil))))) (dg_name (i := 2) sc__law_every.nd rfl (by first | exact .inl rfl | exact .inr rfl | exact .inr (.inl rfl)))) (dss_cons (ds_asg (de_add fx (de_v 2) (de_lst (da_cons (de_lst (da_cons (de_xmkC fx x_UnknownName hr (by decide) rfl (da_cons (de_v 0) da_nil)) (da_cons de_str da_nil))) (da_cons (de_lst (da_cons (de_xmkC fx x_InUse hr (by decide) rfl (da_cons (de_v 0) da_nil)) (da_cons de_str da_nil))) (da_cons (de_lst (da_cons (de_x0C fx z_NothingToUndo hr (by decide) rfl) (da_cons de_str da_nil))) da_nil))))) (dg_name (i := 2) sc__law_every.nd rfl (by first | exact .inl rfl | exact .inr rfl | exact .inr (.inl rfl)))) (dss_cons (ds_asg (de_add fx (de_v 2) (de_lst (da_cons (de_lst (da_cons (de_xmkC fx x_NotAlike hr (by decide) rfl (da_cons (de_v 0) da_nil)) (da_cons de_str da_nil))) (da_cons (de_lst (da_cons (de_xmkC fx x_NotShortest hr (by decide) rfl (da_cons (de_v 0) da_nil)) (da_cons de_str da_nil))) (da_cons (de_lst (da_cons (de_x0C fx z_NoMove hr (by decide) rfl) (da_cons de_str da_nil))) da_nil))))) (dg_name (i := 2) sc__law_every.nd rfl (by first | exact .inl rfl | exact .inr rfl | exact .inr (.inl rfl)))) (dss_one (ds_ret (de_add fx (de_v 2) (de_lst (da_cons (de_lst (da_cons (de_xmkC fx x_TooMany hr (by decide) rfl (da_cons (de_v 0) da_nil)) (da_cons de_str da_nil))) (da_cons (de_lst (da_cons (de_xmkC fx x_Broken hr (by decide) rfl (da_cons (de_v 0) (da_cons (de_v 1) da_nil))) (da_cons de_str da_nil))) da_nil)))))))))))))⟩
def F__law_every (ds : List D) : Res D := resD (b__law_every.1 (slots 3 (ds.map .im)))
abbrev s__law_named : Stmt := top 35
theorem sc__law_named : FnScope ["thing", "other_thing", "found"] ["thing", "other_thing"] (defScope s__law_named) := ⟨rfl, rfl, rfl, by decide +kernel, rfl, by decide +kernel, by decide +kernel⟩
def b__law_named : { g : M Out // ∀ (P : Program) (w : World) (K : PySem.W.Frag) (mg : Str → Option Value) (base : Heap) (T : List (Addr × Str)) (f : Addr) (w_Broken_shown_index : XkB P w K mg base "Broken" 2 ["shown", "index"] [1, 0] (fD2 "index" "shown")) (w_InUse_index : XkB P w K mg base "InUse" 1 ["index"] [0] (fD1 "index")) (w_InvalidAngles_index : XkB P w K mg base "InvalidAngles" 1 ["index"] [0] (fD1 "index")) (w_InvalidClaim_given : XkB P w K mg base "InvalidClaim" 1 ["given"] [0] (fD1 "given")) (w_InvalidCommand_given : XkB P w K mg base "InvalidCommand" 1 ["given"] [0] (fD1 "given")) (w_InvalidIndex_given : XkB P w K mg base "InvalidIndex" 1 ["given"] [0] (fD1 "given")) (w_InvalidLetter_given : XkB P w K mg base "InvalidLetter" 1 ["given"] [0] (fD1 "given")) (w_InvalidLot_given : XkB P w K mg base "InvalidLot" 1 ["given"] [0] (fD1 "given")) (w_InvalidName_given : XkB P w K mg base "InvalidName" 1 ["given"] [0] (fD1 "given")) (w_InvalidNumber_given : XkB P w K mg base "InvalidNumber" 1 ["given"] [0] (fD1 "given")) (w_InvalidRow_index : XkB P w K mg base "InvalidRow" 1 ["index"] [0] (fD1 "index")) (w_InvalidRows_index : XkB P w K mg base "InvalidRows" 1 ["index"] [0] (fD1 "index")) (w_InvalidText_given : XkB P w K mg base "InvalidText" 1 ["given"] [0] (fD1 "given")) (w_InvalidTold_index : XkB P w K mg base "InvalidTold" 1 ["index"] [0] (fD1 "index")) (w_InvalidUnknown_index : XkB P w K mg base "InvalidUnknown" 1 ["index"] [0] (fD1 "index")) (w_InvalidWord_given : XkB P w K mg base "InvalidWord" 1 ["given"] [0] (fD1 "given")) (w_NotAlike_letter : XkB P w K mg base "NotAlike" 1 ["letter"] [0] (fD1 "letter")) (w_NotMirrors_given : XkB P w K mg base "NotMirrors" 1 ["given"] [0] (fD1 "given")) (w_NotShortest_indexes : XkB P w K mg base "NotShortest" 1 ["indexes"] [0] (fD1 "indexes")) (w_TooMany_most : XkB P w K mg base "TooMany" 1 ["most"] [0] (fD1 "most")) (w_UnknownName_given : XkB P w K mg base "UnknownName" 1 ["given"] [0] (fD1 "given")) (z_NoMove : X0B P w K mg base "NoMove") (z_NothingToUndo : X0B P w K mg base "NothingToUndo") (cdv : Value) (A : Around) (outer : List Env) (s : Shared) (H : Hp) (E : XK) (c : Fc) (hK : c.K = K) (hM : c.mg = mg) (hT : c.T = T) (fx : Fit (cxOf (L2.CX P w) P w K mg base ["thing", "other_thing", "found"] "_law_named" (defScope s__law_named) f cdv A outer s H E) c) (hr : Room 2 (A.deeper (envOfC "_law_named" (defScope s__law_named) s.heap.objs.size f cdv))), DSs (cxOf (L2.CX P w) P w K mg base ["thing", "other_thing", "found"] "_law_named" (defScope s__law_named) f cdv A outer s H E) c (defBody s__law_named) g } :=
  ⟨_, fun P w K mg base T f w_Broken_shown_index w_InUse_index w_InvalidAngles_index w_InvalidClaim_given w_InvalidCommand_given w_InvalidIndex_given w_InvalidLetter_given w_InvalidLot_given w_InvalidName_given w_InvalidNumber_given w_InvalidRow_index w_InvalidRows_index w_InvalidText_given w_InvalidTold_index w_InvalidUnknown_index w_InvalidWord_given w_NotAlike_letter w_NotMirrors_given w_NotShortest_indexes w_TooMany_most w_UnknownName_given z_NoMove z_NothingToUndo cdv A outer s H E c hK hM hT fx hr => (dss_cons (ds_asg (de_lst (da_cons (de_xmkKC fx w_InvalidText_given hr (by decide) rfl (dk_cons (de_v 0) dk_nil)) (da_cons (de_xmkKC fx w_InvalidNumber_given hr (by decide) rfl (dk_cons (de_v 0) dk_nil)) (da_cons (de_xmkKC fx w_InvalidName_given hr (by decide) rfl (dk_cons (de_v 0) dk_nil)) (da_cons (de_xmkKC fx w_InvalidIndex_given hr (by decide) rfl (dk_cons (de_v 0) dk_nil)) da_nil))))) (dg_name (i := 2) sc__law_named.nd rfl (by first | exact .inl rfl | exact .inr rfl | exact .inr (.inl rfl)))) (dss_cons (ds_asg (de_add fx (de_v 2) (de_lst (da_cons (de_xmkKC fx w_InvalidWord_given hr (by decide) rfl (dk_cons (de_v 0) dk_nil)) (da_cons (de_xmkKC fx w_InvalidLetter_given hr (by decide) rfl (dk_cons (de_v 0) dk_nil)) (da_cons (de_xmkKC fx w_InvalidLot_given hr (by decide) rfl (dk_cons (de_v 0) dk_nil)) da_nil))))) (dg_name (i := 2) sc__law_named.nd rfl (by first | exact .inl rfl | exact .inr rfl | exact .inr (.inl rfl)))) (dss_cons (ds_asg (de_add fx (de_v 2) (de_lst (da_cons (de_xmkKC fx w_InvalidClaim_given hr (by decide) rfl (dk_cons (de_v 0) dk_nil)) (da_cons (de_xmkKC fx w_InvalidCommand_given hr (by decide) rfl (dk_cons (de_v 0) dk_nil)) (da_cons (de_xmkKC fx w_NotMirrors_given hr (by decide) rfl (dk_cons (de_v 0) dk_nil)) da_nil))))) (dg_name (i := 2) sc__law_named.nd rfl (by first | exact .inl rfl | exact .inr rfl | exact .inr (.inl rfl)))) (dss_cons (ds_asg (de_add fx (de_v 2) (de_lst (da_cons (de_xmkKC fx w_InvalidAngles_index hr (by decide) rfl (dk_cons (de_v 0) dk_nil)) (da_cons (de_xmkKC fx w_InvalidRow_index hr (by decide) rfl (dk_cons (de_v 0) dk_nil)) (da_cons (de_xmkKC fx w_InvalidRows_index hr (by decide) rfl (dk_cons (de_v 0) dk_nil)) da_nil))))) (dg_name (i := 2) sc__law_named.nd rfl (by first | exact .inl rfl | exact .inr rfl | exact .inr (.inl rfl)))) (dss_cons (ds_asg (de_add fx (de_v 2) (de_lst (da_cons (de_xmkKC fx w_InvalidUnknown_index hr (by decide) rfl (dk_cons (de_v 0) dk_nil)) (da_cons (de_xmkKC fx w_InvalidTold_index hr (by decide) rfl (dk_cons (de_v 0) dk_nil)) (da_cons (de_xmkKC fx w_UnknownName_given hr (by decide) rfl (dk_cons (de_v 0) dk_nil)) da_nil))))) (dg_name (i := 2) sc__law_named.nd rfl (by first | exact .inl rfl | exact .inr rfl | exact .inr (.inl rfl)))) (dss_cons (ds_asg (de_add fx (de_v 2) (de_lst (da_cons (de_xmkKC fx w_InUse_index hr (by decide) rfl (dk_cons (de_v 0) dk_nil)) (da_cons (de_x0C fx z_NothingToUndo hr (by decide) rfl) (da_cons (de_xmkKC fx w_NotAlike_letter hr (by decide) rfl (dk_cons (de_v 0) dk_nil)) (da_cons (de_xmkKC fx w_NotShortest_indexes hr (by decide) rfl (dk_cons (de_v 0) dk_nil)) da_nil)))))) (dg_name (i := 2) sc__law_named.nd rfl (by first | exact .inl rfl | exact .inr rfl | exact .inr (.inl rfl)))) (dss_one (ds_ret (de_add fx (de_v 2) (de_lst (da_cons (de_x0C fx z_NoMove hr (by decide) rfl) (da_cons (de_xmkKC fx w_TooMany_most hr (by decide) rfl (dk_cons (de_v 0) dk_nil)) (da_cons (de_xmkKC fx w_Broken_shown_index hr (by decide) rfl (dk_cons (de_v 1) (dk_cons (de_v 0) dk_nil))) da_nil)))))))))))))⟩
def F__law_named (ds : List D) : Res D := resD (b__law_named.1 (slots 3 (ds.map .im)))
abbrev s__law_has : Stmt := top 36
theorem sc__law_has : FnScope ["e", "field"] ["e", "field"] (defScope s__law_has) := ⟨rfl, rfl, rfl, by decide +kernel, rfl, by decide +kernel, by decide +kernel⟩
def b__law_has : { g : M Out // ∀ (P : Program) (w : World) (K : PySem.W.Frag) (mg : Str → Option Value) (base : Heap) (T : List (Addr × Str)) (f : Addr) (t_given : XTab K mg ["InvalidText", "InvalidNumber", "InvalidName", "InvalidIndex", "InvalidWord", "InvalidLetter", "InvalidLot", "InvalidClaim", "InvalidCommand", "NotMirrors", "UnknownName"] "given") (t_index : XTab K mg ["InvalidAngles", "InvalidRow", "InvalidRows", "InvalidUnknown", "InvalidTold", "InUse", "Broken"] "index") (t_indexes : XTab K mg ["NotShortest"] "indexes") (t_letter : XTab K mg ["NotAlike"] "letter") (t_most : XTab K mg ["TooMany"] "most") (cdv : Value) (A : Around) (outer : List Env) (s : Shared) (H : Hp) (E : XK) (c : Fc) (hK : c.K = K) (hM : c.mg = mg) (hT : c.T = T) (fx : Fit (cxOf (L2.CX P w) P w K mg base ["e", "field"] "_law_has" (defScope s__law_has) f cdv A outer s H E) c) (hr : Room 0 (A.deeper (envOfC "_law_has" (defScope s__law_has) s.heap.objs.size f cdv))), DSs (cxOf (L2.CX P w) P w K mg base ["e", "field"] "_law_has" (defScope s__law_has) f cdv A outer s H E) c (defBody s__law_has) g } :=
  ⟨_, fun P w K mg base T f t_given t_index t_indexes t_letter t_most cdv A outer s H E c hK hM hT fx hr => (dss_cons (ds_if (dt_eqA fx hr (de_v 1) de_str) (dss_one (ds_ret de_str)) dss_nil) (dss_cons (ds_if (dt_eqA fx hr (de_v 1) de_str) (dss_one (ds_ret (de_xf fx t_given (de_v 0)))) dss_nil) (dss_cons (ds_if (dt_eqA fx hr (de_v 1) de_str) (dss_one (ds_ret (de_xf fx t_index (de_v 0)))) dss_nil) (dss_cons (ds_if (dt_eqA fx hr (de_v 1) de_str) (dss_one (ds_ret (de_xf fx t_letter (de_v 0)))) dss_nil) (dss_one (ds_ret (de_ifx (dt_eqA fx hr (de_v 1) de_str) (de_xf fx t_indexes (de_v 0)) (de_xf fx t_most (de_v 0)))))))))⟩
def F__law_has (ds : List D) : Res D := resD (b__law_has.1 (slots 2 (ds.map .im)))
abbrev s__law_bases : Stmt := top 37
theorem sc__law_bases : FnScope ["e", "own"] ["e"] (defScope s__law_bases) := ⟨rfl, rfl, rfl, by decide +kernel, rfl, by decide +kernel, by decide +kernel⟩
def b__law_bases : { g : M Out // ∀ (P : Program) (w : World) (K : PySem.W.Frag) (mg : Str → Option Value) (base : Heap) (T : List (Addr × Str)) (f : Addr) (kin : DL.Kinds K mg ins exc) (kto : KtOk K mg kt) (C_NotKnown : Addr) (m_NotKnown : mg "NotKnown" = some (.ref C_NotKnown)) (C_NotPossible : Addr) (m_NotPossible : mg "NotPossible" = some (.ref C_NotPossible)) (C_NotRight : Addr) (m_NotRight : mg "NotRight" = some (.ref C_NotRight)) (n_ArithmeticError : mg "ArithmeticError" = none) (n_LookupError : mg "LookupError" = none) (n_ValueError : mg "ValueError" = none) (n_isinstance : mg "isinstance" = none) (cdv : Value) (A : Around) (outer : List Env) (s : Shared) (H : Hp) (E : XK) (c : Fc) (hK : c.K = K) (hM : c.mg = mg) (hT : c.T = T) (fx : Fit (cxOf (L2.CX P w) P w K mg base ["e", "own"] "_law_bases" (defScope s__law_bases) f cdv A outer s H E) c) (hr : Room 0 (A.deeper (envOfC "_law_bases" (defScope s__law_bases) s.heap.objs.size f cdv))), DSs (cxOf (L2.CX P w) P w K mg base ["e", "own"] "_law_bases" (defScope s__law_bases) f cdv A outer s H E) c (defBody s__law_bases) g } :=
  ⟨_, fun P w K mg base T f kin kto C_NotKnown m_NotKnown C_NotPossible m_NotPossible C_NotRight m_NotRight n_ArithmeticError n_LookupError n_ValueError n_isinstance cdv A outer s H E c hK hM hT fx hr => (dss_cons (ds_asg (de_lst (da_cons (de_isiC fx kin kto rfl n_isinstance (da_cons (de_v 0) (da_cons (de_cl fx rfl m_NotRight) da_nil))) (da_cons (de_isiC fx kin kto rfl n_isinstance (da_cons (de_v 0) (da_cons (de_cl fx rfl m_NotKnown) da_nil))) (da_cons (de_isiC fx kin kto rfl n_isinstance (da_cons (de_v 0) (da_cons (de_cl fx rfl m_NotPossible) da_nil))) da_nil)))) (dg_name (i := 1) sc__law_bases.nd rfl (by first | exact .inl rfl | exact .inr rfl | exact .inr (.inl rfl)))) (dss_one (ds_ret (de_add fx (de_v 1) (de_lst (da_cons (de_isiC fx kin kto rfl n_isinstance (da_cons (de_v 0) (da_cons (de_ty rfl n_ValueError rfl) da_nil))) (da_cons (de_isiC fx kin kto rfl n_isinstance (da_cons (de_v 0) (da_cons (de_ty rfl n_LookupError rfl) da_nil))) (da_cons (de_isiC fx kin kto rfl n_isinstance (da_cons (de_v 0) (da_cons (de_ty rfl n_ArithmeticError rfl) da_nil))) da_nil))))))))⟩
def F__law_bases (ds : List D) : Res D := resD (b__law_bases.1 (slots 2 (ds.map .im)))
abbrev s__law_caught : Stmt := top 38
theorem sc__law_caught : FnScope ["thing", "found", "e"] ["thing"] (defScope s__law_caught) := ⟨rfl, rfl, rfl, by decide +kernel, rfl, by decide +kernel, by decide +kernel⟩
def b__law_caught : { g : M Out // ∀ (P : Program) (w : World) (K : PySem.W.Frag) (mg : Str → Option Value) (base : Heap) (T : List (Addr × Str)) (f : Addr) (C_NotKnown : Addr) (m_NotKnown : mg "NotKnown" = some (.ref C_NotKnown)) (C_NotPossible : Addr) (m_NotPossible : mg "NotPossible" = some (.ref C_NotPossible)) (C_NotRight : Addr) (m_NotRight : mg "NotRight" = some (.ref C_NotRight)) (q_NotKnown : CatB mg (fun cls => PySem.W.exmOne K cls (.ref C_NotKnown)) (cat_NotKnown)) (q_NotPossible : CatB mg (fun cls => PySem.W.exmOne K cls (.ref C_NotPossible)) (cat_NotPossible)) (q_NotRight : CatB mg (fun cls => PySem.W.exmOne K cls (.ref C_NotRight)) (cat_NotRight)) (t_given : XTab K mg ["InvalidText", "InvalidNumber", "InvalidName", "InvalidIndex", "InvalidWord", "InvalidLetter", "InvalidLot", "InvalidClaim", "InvalidCommand", "NotMirrors", "UnknownName"] "given") (t_index : XTab K mg ["InvalidAngles", "InvalidRow", "InvalidRows", "InvalidUnknown", "InvalidTold", "InUse", "Broken"] "index") (t_most : XTab K mg ["TooMany"] "most") (x_InvalidRows : XcB P w K mg base "InvalidRows" 1 (fD1 "index")) (x_TooMany : XcB P w K mg base "TooMany" 1 (fD1 "most")) (x_UnknownName : XcB P w K mg base "UnknownName" 1 (fD1 "given")) (cdv : Value) (A : Around) (outer : List Env) (s : Shared) (H : Hp) (E : XK) (c : Fc) (hK : c.K = K) (hM : c.mg = mg) (hT : c.T = T) (fx : Fit (cxOf (L2.CX P w) P w K mg base ["thing", "found", "e"] "_law_caught" (defScope s__law_caught) f cdv A outer s H E) c) (hr : Room 2 (A.deeper (envOfC "_law_caught" (defScope s__law_caught) s.heap.objs.size f cdv))), DSs (cxOf (L2.CX P w) P w K mg base ["thing", "found", "e"] "_law_caught" (defScope s__law_caught) f cdv A outer s H E) c (defBody s__law_caught) g } :=
  ⟨_, fun P w K mg base T f C_NotKnown m_NotKnown C_NotPossible m_NotPossible C_NotRight m_NotRight q_NotKnown q_NotPossible q_NotRight t_given t_index t_most x_InvalidRows x_TooMany x_UnknownName cdv A outer s H E c hK hM hT fx hr => (dss_cons (ds_ownL (i := 1) da_nil sc__law_caught.nd rfl (.inl rfl)) (dss_cons (ds_tryC rfl rfl sc__law_caught.nd (i := 2) rfl rfl rfl fx.t rfl m_NotRight (by decide) q_NotRight (fun c1 pn1 xe1 fx1 ht1 po1 => (dss_one (ds_raisC rfl fx1 x_InvalidRows hr (by decide) rfl (da_cons (de_v 0) da_nil)))) (fun c1 a1 pn1 fx1 ht1 => (dss_one (ds_app (i := 1) rfl (by first | exact .inl rfl | exact .inr (.inl rfl) | exact .inr (.inr rfl)) (de_xf fx1 t_index (de_v 2)) (hpe := fun ha => pe_bm PySem.F.plainAttrs_list PySem.F.slot_list_append PySem.F.type_list_append mt_append (pe_var rfl (by first | exact .inl rfl | exact .inr (.inl rfl) | exact .inr (.inr rfl))) ha))))) (dss_cons (ds_tryC rfl rfl sc__law_caught.nd (i := 2) rfl rfl rfl fx.t rfl m_NotKnown (by decide) q_NotKnown (fun c2 pn2 xe2 fx2 ht2 po2 => (dss_one (ds_raisC rfl fx2 x_UnknownName hr (by decide) rfl (da_cons (de_v 0) da_nil)))) (fun c2 a2 pn2 fx2 ht2 => (dss_one (ds_app (i := 1) rfl (by first | exact .inl rfl | exact .inr (.inl rfl) | exact .inr (.inr rfl)) (de_xf fx2 t_given (de_v 2)) (hpe := fun ha => pe_bm PySem.F.plainAttrs_list PySem.F.slot_list_append PySem.F.type_list_append mt_append (pe_var rfl (by first | exact .inl rfl | exact .inr (.inl rfl) | exact .inr (.inr rfl))) ha))))) (dss_cons (ds_tryC rfl rfl sc__law_caught.nd (i := 2) rfl rfl rfl fx.t rfl m_NotPossible (by decide) q_NotPossible (fun c3 pn3 xe3 fx3 ht3 po3 => (dss_one (ds_raisC rfl fx3 x_TooMany hr (by decide) rfl (da_cons (de_v 0) da_nil)))) (fun c3 a3 pn3 fx3 ht3 => (dss_one (ds_app (i := 1) rfl (by first | exact .inl rfl | exact .inr (.inl rfl) | exact .inr (.inr rfl)) (de_xf fx3 t_most (de_v 2)) (hpe := fun ha => pe_bm PySem.F.plainAttrs_list PySem.F.slot_list_append PySem.F.type_list_append mt_append (pe_var rfl (by first | exact .inl rfl | exact .inr (.inl rfl) | exact .inr (.inr rfl))) ha))))) (dss_one (ds_ret (de_v 1)))))))⟩
def F__law_caught (ds : List D) : Res D := resD (b__law_caught.1 (slots 3 (ds.map .im)))
abbrev s__law_right : Stmt := top 39
theorem sc__law_right : FnScope ["thing", "other_thing", "some", "others", "k", "base", "due", "e", "last"] ["thing", "other_thing"] (defScope s__law_right) := ⟨rfl, rfl, rfl, by decide +kernel, rfl, by decide +kernel, by decide +kernel⟩
def b__law_right : { g : M Out // ∀ (P : Program) (w : World) (K : PySem.W.Frag) (mg : Str → Option Value) (base : Heap) (T : List (Addr × Str)) (f : Addr) (c__law_bases : Cal P w K mg base T "_law_bases" 1 1 F__law_bases) (c__law_caught : Cal P w K mg base T "_law_caught" 3 1 F__law_caught) (c__law_every : Cal P w K mg base T "_law_every" 3 2 F__law_every) (c__law_has : Cal P w K mg base T "_law_has" 1 2 F__law_has) (c__law_named : Cal P w K mg base T "_law_named" 3 2 F__law_named) (n_len : mg "len" = none) (n_range : mg "range" = none) (n_repr : mg "repr" = none) (t_shown : XTab K mg ["Broken"] "shown") (cdv : Value) (A : Around) (outer : List Env) (s : Shared) (H : Hp) (E : XK) (c : Fc) (hK : c.K = K) (hM : c.mg = mg) (hT : c.T = T) (fx : Fit (cxOf (L2.CX P w) P w K mg base ["thing", "other_thing", "some", "others", "k", "base", "due", "e", "last"] "_law_right" (defScope s__law_right) f cdv A outer s H E) c) (hgd : A.guards = some []) (hr : Room 3 (A.deeper (envOfC "_law_right" (defScope s__law_right) s.heap.objs.size f cdv))), DSs (cxOf (L2.CX P w) P w K mg base ["thing", "other_thing", "some", "others", "k", "base", "due", "e", "last"] "_law_right" (defScope s__law_right) f cdv A outer s H E) c (defBody s__law_right) g } :=
  ⟨_, fun P w K mg base T f c__law_bases c__law_caught c__law_every c__law_has c__law_named n_len n_range n_repr t_shown cdv A outer s H E c hK hM hT fx hgd hr => (dss_cons (ds_par (i := 2) (j := 3) rfl sc__law_right.nd rfl rfl (by decide) rfl rfl (da_cons (de_callC fx hT c__law_every hr (by decide) rfl (da_cons (de_v 0) (da_cons (de_v 1) da_nil))) (da_cons (de_callC fx hT c__law_named hr (by decide) rfl (da_cons (de_v 0) (da_cons (de_v 1) da_nil))) da_nil)) rfl) (dss_cons (ds_for (passes_of rfl) rfl (di_range1 rfl n_range (da_cons (de_len fx rfl n_len (da_cons (de_v 2) da_nil)) da_nil)) (dg_name (i := 4) sc__law_right.nd rfl (by first | exact .inl rfl | exact .inr rfl | exact .inr (.inl rfl))) (dss_cons (ds_asg (de_ifx (dt_lt (de_v 4) de_int) de_int (de_ifx (dt_lt (de_v 4) de_int) de_int de_int)) (dg_name (i := 5) sc__law_right.nd rfl (by first | exact .inl rfl | exact .inr rfl | exact .inr (.inl rfl)))) (dss_cons (ds_asg (de_rep (de_lst (da_cons (de_eqA fx hr (de_v 5) de_int) (da_cons (de_eqA fx hr (de_v 5) de_int) (da_cons (de_eqA fx hr (de_v 5) de_int) da_nil)))) de_int) (dg_name (i := 6) sc__law_right.nd rfl (by first | exact .inl rfl | exact .inr rfl | exact .inr (.inl rfl)))) (dss_one (ds_for (passes_of rfl) rfl (di_list fx (de_lst (da_cons (de_ixA fx hr (de_ixA fx hr (de_v 2) (de_v 4)) de_int) (da_cons (de_ixA fx hr (de_v 3) (de_v 4)) da_nil)))) (dg_name (i := 7) sc__law_right.nd rfl (by first | exact .inl rfl | exact .inr rfl | exact .inr (.inl rfl))) (dss_cons (ds_if (dt_neA fx hr (de_callC fx hT c__law_bases hr (by decide) rfl (da_cons (de_v 7) da_nil)) (de_v 6)) (dss_one (ds_ret de_bl)) dss_nil) (dss_one (ds_if (dt_neA fx hr (de_repr fx hgd hr rfl n_repr (da_cons (de_callC fx hT c__law_has hr (by decide) rfl (da_cons (de_v 7) (da_cons (de_ixA fx hr (de_ixA fx hr (de_v 2) (de_v 4)) de_int) da_nil))) da_nil)) (de_repr fx hgd hr rfl n_repr (da_cons (de_ifx (dt_neA fx hr (de_ixA fx hr (de_ixA fx hr (de_v 2) (de_v 4)) de_int) de_str) (de_v 0) de_str) da_nil))) (dss_one (ds_ret de_bl)) dss_nil)))))))) (dss_cons (ds_asg (de_lst (da_cons (de_ixA fx hr (de_ixA fx hr (de_v 2) de_int) de_int) (da_cons (de_ixA fx hr (de_v 3) de_int) da_nil))) (dg_name (i := 8) sc__law_right.nd rfl (by first | exact .inl rfl | exact .inr rfl | exact .inr (.inl rfl)))) (dss_one (ds_ret (de_and (de_eqA fx hr (de_repr fx hgd hr rfl n_repr (da_cons (de_comp (own := [("e", 7)]) fx rfl sc__law_right.nd (di_any fx (de_v 8)) (blk_by (by kernel_rfl)) (by decide) (by decide) (fun s1 H1 C1 cl1 fp1 c1 fb1 => (dg_name (i := 7) sc__law_right.nd rfl (by first | exact .inl rfl | exact .inr rfl | exact .inr (.inl rfl)))) (fun s1 H1 C1 cl1 fp1 c1 fb1 => .nil) (fun s1 H1 C1 cl1 fp1 c1 fb1 => (de_xf (fb1.fit rfl) t_shown (de_v 7)))) da_nil)) (de_repr fx hgd hr rfl n_repr (da_cons (de_rep (de_lst (da_cons (de_v 1) da_nil)) de_int) da_nil))) (de_one (de_eqA fx hr (de_repr fx hgd hr rfl n_repr (da_cons (de_callC fx hT c__law_caught hr (by decide) rfl (da_cons (de_v 0) da_nil)) da_nil)) (de_repr fx hgd hr rfl n_repr (da_cons (de_rep (de_lst (da_cons (de_v 0) da_nil)) de_int) da_nil))))))))))⟩
def F__law_right (ds : List D) : Res D := resD (b__law_right.1 (slots 9 (ds.map .im)))
abbrev s_law : Stmt := top 40
theorem sc_law : FnScope ["script", "limits_here", "things", "each", "k"] ["script"] (defScope s_law) := ⟨rfl, rfl, rfl, by decide +kernel, rfl, by decide +kernel, by decide +kernel⟩
def b_law : { g : M Out // ∀ (P : Program) (w : World) (K : PySem.W.Frag) (mg : Str → Option Value) (base : Heap) (T : List (Addr × Str)) (f : Addr) (g__law_right : CalG P w K mg base T "_law_right" 4 2 F__law_right) (k_MOST_LENGTH : Con K mg "MOST_LENGTH" K_MOST_LENGTH) (k_MOST_LETTERS : Con K mg "MOST_LETTERS" K_MOST_LETTERS) (k_MOST_TOLD : Con K mg "MOST_TOLD" K_MOST_TOLD) (k_MOST_UNKNOWN : Con K mg "MOST_UNKNOWN" K_MOST_UNKNOWN) (k_MOST_WORD : Con K mg "MOST_WORD" K_MOST_WORD) (k_MOST_WORDS : Con K mg "MOST_WORDS" K_MOST_WORDS) (n_all : mg "all" = none) (n_int : mg "int" = none) (n_len : mg "len" = none) (n_range : mg "range" = none) (cdv : Value) (A : Around) (outer : List Env) (s : Shared) (H : Hp) (E : XK) (c : Fc) (hK : c.K = K) (hM : c.mg = mg) (hT : c.T = T) (fx : Fit (cxOf (L2.CX P w) P w K mg base ["script", "limits_here", "things", "each", "k"] "law" (defScope s_law) f cdv A outer s H E) c) (hgd : A.guards = some []) (hr : Room 4 (A.deeper (envOfC "law" (defScope s_law) s.heap.objs.size f cdv))), DSs (cxOf (L2.CX P w) P w K mg base ["script", "limits_here", "things", "each", "k"] "law" (defScope s_law) f cdv A outer s H E) c (defBody s_law) g } :=
  ⟨_, fun P w K mg base T f g__law_right k_MOST_LENGTH k_MOST_LETTERS k_MOST_TOLD k_MOST_UNKNOWN k_MOST_WORD k_MOST_WORDS n_all n_int n_len n_range cdv A outer s H E c hK hM hT fx hgd hr => (dss_cons (ds_asg (de_lst (da_cons (de_con fx k_MOST_LETTERS rfl) (da_cons (de_con fx k_MOST_WORD rfl) (da_cons (de_con fx k_MOST_LENGTH rfl) (da_cons (de_con fx k_MOST_WORDS rfl) (da_cons (de_con fx k_MOST_UNKNOWN rfl) (da_cons (de_con fx k_MOST_TOLD rfl) da_nil))))))) (dg_name (i := 1) sc_law.nd rfl (by first | exact .inl rfl | exact .inr rfl | exact .inr (.inl rfl)))) (dss_cons (ds_if (dt_neA fx hr (de_v 1) (de_lst (da_cons de_int (da_cons de_int (da_cons de_int (da_cons de_int (da_cons de_int (da_cons de_int da_nil)))))))) (dss_one (ds_ret de_bl)) dss_nil) (dss_cons (ds_asg (de_add fx (de_lst (da_cons de_non (da_cons de_str (da_cons (de_tup (da_cons de_int (da_cons de_str da_nil))) (da_cons de_bl (da_cons (de_neg de_int) da_nil)))))) (de_comp (own := [("each", 3)]) fx rfl sc_law.nd (di_any fx (de_sl fx (de_v 0) do_none (do_some de_int))) (blk_by (by kernel_rfl)) (by decide) (by decide) (fun s1 H1 C1 cl1 fp1 c1 fb1 => (dg_name (i := 3) sc_law.nd rfl (by first | exact .inl rfl | exact .inr rfl | exact .inr (.inl rfl)))) (fun s1 H1 C1 cl1 fp1 c1 fb1 => .nil) (fun s1 H1 C1 cl1 fp1 c1 fb1 => (de_mod (de_intc rfl n_int (da_cons (de_v 3) da_nil)) (de_pow de_int de_int))))) (dg_name (i := 2) sc_law.nd rfl (by first | exact .inl rfl | exact .inr rfl | exact .inr (.inl rfl)))) (dss_one (ds_ret (de_all fx rfl rfl n_all (da_cons (de_comp (own := [("k", 4)]) fx rfl sc_law.nd (di_range1 rfl n_range (da_cons (de_len fx rfl n_len (da_cons (de_v 2) da_nil)) da_nil)) (blk_by (by kernel_rfl)) (by decide) (by decide) (fun s2 H2 C2 cl2 fp2 c2 fb2 => (dg_name (i := 4) sc_law.nd rfl (by first | exact .inl rfl | exact .inr rfl | exact .inr (.inl rfl)))) (fun s2 H2 C2 cl2 fp2 c2 fb2 => .nil) (fun s2 H2 C2 cl2 fp2 c2 fb2 => (de_callGC (fb2.fit rfl) (fb2.t.trans hT) hgd g__law_right hr (by decide) rfl (da_cons (de_ixA (fb2.fit rfl) hr (de_v 2) (de_v 4)) (da_cons (de_ixA (fb2.fit rfl) hr (de_v 2) (de_sub (de_v 4) de_int)) da_nil))))) da_nil)))))))⟩
def F_law (ds : List D) : Res D := resD (b_law.1 (slots 5 (ds.map .im)))
end KX

set_option Elab.async false
set_option linter.all false
set_option maxRecDepth 100000
set_option maxHeartbeats 0
namespace KX
open PySem PySem.Spec PyProof.Rows L2 DL
def eL (d d' : D) : List D := [.lst [.ex "InvalidText" [("given", d)], .str "given"], .lst [.ex "InvalidNumber" [("given", d)], .str "given"], .lst [.ex "InvalidName" [("given", d)], .str "given"], .lst [.ex "InvalidIndex" [("given", d)], .str "given"], .lst [.ex "InvalidWord" [("given", d)], .str "given"], .lst [.ex "InvalidLetter" [("given", d)], .str "given"], .lst [.ex "InvalidLot" [("given", d)], .str "given"], .lst [.ex "InvalidClaim" [("given", d)], .str "given"], .lst [.ex "InvalidCommand" [("given", d)], .str "given"], .lst [.ex "NotMirrors" [("given", d)], .str "given"], .lst [.ex "InvalidAngles" [("index", d)], .str "index"], .lst [.ex "InvalidRow" [("index", d)], .str "index"], .lst [.ex "InvalidRows" [("index", d)], .str "index"], .lst [.ex "InvalidUnknown" [("index", d)], .str "index"], .lst [.ex "InvalidTold" [("index", d)], .str "index"], .lst [.ex "UnknownName" [("given", d)], .str "given"], .lst [.ex "InUse" [("index", d)], .str "index"], .lst [.ex "NothingToUndo" [], .str ""], .lst [.ex "NotAlike" [("letter", d)], .str "letter"], .lst [.ex "NotShortest" [("indexes", d)], .str "indexes"], .lst [.ex "NoMove" [], .str ""], .lst [.ex "TooMany" [("most", d)], .str "most"], .lst [.ex "Broken" [("shown", d'), ("index", d)], .str "index"]]
def nL (d d' : D) : List D := [.ex "InvalidText" [("given", d)], .ex "InvalidNumber" [("given", d)], .ex "InvalidName" [("given", d)], .ex "InvalidIndex" [("given", d)], .ex "InvalidWord" [("given", d)], .ex "InvalidLetter" [("given", d)], .ex "InvalidLot" [("given", d)], .ex "InvalidClaim" [("given", d)], .ex "InvalidCommand" [("given", d)], .ex "NotMirrors" [("given", d)], .ex "InvalidAngles" [("index", d)], .ex "InvalidRow" [("index", d)], .ex "InvalidRows" [("index", d)], .ex "InvalidUnknown" [("index", d)], .ex "InvalidTold" [("index", d)], .ex "UnknownName" [("given", d)], .ex "InUse" [("index", d)], .ex "NothingToUndo" [], .ex "NotAlike" [("letter", d)], .ex "NotShortest" [("indexes", d)], .ex "NoMove" [], .ex "TooMany" [("most", d)], .ex "Broken" [("shown", d'), ("index", d)]]
theorem every_eq (d d' : D) : F__law_every [d, d'] = .ok (.lst (eL d d')) := by kernel_rfl
theorem named_eq (d d' : D) : F__law_named [d, d'] = .ok (.lst (nL d d')) := by kernel_rfl
theorem caught_eq (d : D) : F__law_caught [d] = .ok (.lst [d, d, d]) := by kernel_rfl
theorem bs_InvalidText (fs : List (Str × D)) : F__law_bases [.ex "InvalidText" fs] = .ok (.lst [.bl true, .bl false, .bl false, .bl true, .bl false, .bl false]) := by kernel_rfl
theorem hs_InvalidText (d d' : D) : F__law_has [.ex "InvalidText" [("given", d)], .str "given"] = .ok d := by kernel_rfl
theorem bs_InvalidNumber (fs : List (Str × D)) : F__law_bases [.ex "InvalidNumber" fs] = .ok (.lst [.bl true, .bl false, .bl false, .bl true, .bl false, .bl false]) := by kernel_rfl
theorem hs_InvalidNumber (d d' : D) : F__law_has [.ex "InvalidNumber" [("given", d)], .str "given"] = .ok d := by kernel_rfl
theorem bs_InvalidName (fs : List (Str × D)) : F__law_bases [.ex "InvalidName" fs] = .ok (.lst [.bl true, .bl false, .bl false, .bl true, .bl false, .bl false]) := by kernel_rfl
theorem hs_InvalidName (d d' : D) : F__law_has [.ex "InvalidName" [("given", d)], .str "given"] = .ok d := by kernel_rfl
theorem bs_InvalidIndex (fs : List (Str × D)) : F__law_bases [.ex "InvalidIndex" fs] = .ok (.lst [.bl true, .bl false, .bl false, .bl true, .bl false, .bl false]) := by kernel_rfl
theorem hs_InvalidIndex (d d' : D) : F__law_has [.ex "InvalidIndex" [("given", d)], .str "given"] = .ok d := by kernel_rfl
theorem bs_InvalidWord (fs : List (Str × D)) : F__law_bases [.ex "InvalidWord" fs] = .ok (.lst [.bl true, .bl false, .bl false, .bl true, .bl false, .bl false]) := by kernel_rfl
theorem hs_InvalidWord (d d' : D) : F__law_has [.ex "InvalidWord" [("given", d)], .str "given"] = .ok d := by kernel_rfl
theorem bs_InvalidLetter (fs : List (Str × D)) : F__law_bases [.ex "InvalidLetter" fs] = .ok (.lst [.bl true, .bl false, .bl false, .bl true, .bl false, .bl false]) := by kernel_rfl
theorem hs_InvalidLetter (d d' : D) : F__law_has [.ex "InvalidLetter" [("given", d)], .str "given"] = .ok d := by kernel_rfl
theorem bs_InvalidLot (fs : List (Str × D)) : F__law_bases [.ex "InvalidLot" fs] = .ok (.lst [.bl true, .bl false, .bl false, .bl true, .bl false, .bl false]) := by kernel_rfl
theorem hs_InvalidLot (d d' : D) : F__law_has [.ex "InvalidLot" [("given", d)], .str "given"] = .ok d := by kernel_rfl
theorem bs_InvalidClaim (fs : List (Str × D)) : F__law_bases [.ex "InvalidClaim" fs] = .ok (.lst [.bl true, .bl false, .bl false, .bl true, .bl false, .bl false]) := by kernel_rfl
theorem hs_InvalidClaim (d d' : D) : F__law_has [.ex "InvalidClaim" [("given", d)], .str "given"] = .ok d := by kernel_rfl
theorem bs_InvalidCommand (fs : List (Str × D)) : F__law_bases [.ex "InvalidCommand" fs] = .ok (.lst [.bl true, .bl false, .bl false, .bl true, .bl false, .bl false]) := by kernel_rfl
theorem hs_InvalidCommand (d d' : D) : F__law_has [.ex "InvalidCommand" [("given", d)], .str "given"] = .ok d := by kernel_rfl
theorem bs_NotMirrors (fs : List (Str × D)) : F__law_bases [.ex "NotMirrors" fs] = .ok (.lst [.bl true, .bl false, .bl false, .bl true, .bl false, .bl false]) := by kernel_rfl
theorem hs_NotMirrors (d d' : D) : F__law_has [.ex "NotMirrors" [("given", d)], .str "given"] = .ok d := by kernel_rfl
theorem bs_InvalidAngles (fs : List (Str × D)) : F__law_bases [.ex "InvalidAngles" fs] = .ok (.lst [.bl true, .bl false, .bl false, .bl true, .bl false, .bl false]) := by kernel_rfl
theorem hs_InvalidAngles (d d' : D) : F__law_has [.ex "InvalidAngles" [("index", d)], .str "index"] = .ok d := by kernel_rfl
theorem bs_InvalidRow (fs : List (Str × D)) : F__law_bases [.ex "InvalidRow" fs] = .ok (.lst [.bl true, .bl false, .bl false, .bl true, .bl false, .bl false]) := by kernel_rfl
theorem hs_InvalidRow (d d' : D) : F__law_has [.ex "InvalidRow" [("index", d)], .str "index"] = .ok d := by kernel_rfl
theorem bs_InvalidRows (fs : List (Str × D)) : F__law_bases [.ex "InvalidRows" fs] = .ok (.lst [.bl true, .bl false, .bl false, .bl true, .bl false, .bl false]) := by kernel_rfl
theorem hs_InvalidRows (d d' : D) : F__law_has [.ex "InvalidRows" [("index", d)], .str "index"] = .ok d := by kernel_rfl
theorem bs_InvalidUnknown (fs : List (Str × D)) : F__law_bases [.ex "InvalidUnknown" fs] = .ok (.lst [.bl true, .bl false, .bl false, .bl true, .bl false, .bl false]) := by kernel_rfl
theorem hs_InvalidUnknown (d d' : D) : F__law_has [.ex "InvalidUnknown" [("index", d)], .str "index"] = .ok d := by kernel_rfl
theorem bs_InvalidTold (fs : List (Str × D)) : F__law_bases [.ex "InvalidTold" fs] = .ok (.lst [.bl true, .bl false, .bl false, .bl true, .bl false, .bl false]) := by kernel_rfl
theorem hs_InvalidTold (d d' : D) : F__law_has [.ex "InvalidTold" [("index", d)], .str "index"] = .ok d := by kernel_rfl
theorem bs_UnknownName (fs : List (Str × D)) : F__law_bases [.ex "UnknownName" fs] = .ok (.lst [.bl false, .bl true, .bl false, .bl false, .bl true, .bl false]) := by kernel_rfl
theorem hs_UnknownName (d d' : D) : F__law_has [.ex "UnknownName" [("given", d)], .str "given"] = .ok d := by kernel_rfl
theorem bs_InUse (fs : List (Str × D)) : F__law_bases [.ex "InUse" fs] = .ok (.lst [.bl false, .bl true, .bl false, .bl false, .bl true, .bl false]) := by kernel_rfl
theorem hs_InUse (d d' : D) : F__law_has [.ex "InUse" [("index", d)], .str "index"] = .ok d := by kernel_rfl
theorem bs_NothingToUndo (fs : List (Str × D)) : F__law_bases [.ex "NothingToUndo" fs] = .ok (.lst [.bl false, .bl true, .bl false, .bl false, .bl true, .bl false]) := by kernel_rfl
theorem hs_NothingToUndo (d d' : D) : F__law_has [.ex "NothingToUndo" [], .str ""] = .ok (.str "nothing") := by kernel_rfl
theorem bs_NotAlike (fs : List (Str × D)) : F__law_bases [.ex "NotAlike" fs] = .ok (.lst [.bl false, .bl false, .bl true, .bl false, .bl false, .bl true]) := by kernel_rfl
theorem hs_NotAlike (d d' : D) : F__law_has [.ex "NotAlike" [("letter", d)], .str "letter"] = .ok d := by kernel_rfl
theorem bs_NotShortest (fs : List (Str × D)) : F__law_bases [.ex "NotShortest" fs] = .ok (.lst [.bl false, .bl false, .bl true, .bl false, .bl false, .bl true]) := by kernel_rfl
theorem hs_NotShortest (d d' : D) : F__law_has [.ex "NotShortest" [("indexes", d)], .str "indexes"] = .ok d := by kernel_rfl
theorem bs_NoMove (fs : List (Str × D)) : F__law_bases [.ex "NoMove" fs] = .ok (.lst [.bl false, .bl false, .bl true, .bl false, .bl false, .bl true]) := by kernel_rfl
theorem hs_NoMove (d d' : D) : F__law_has [.ex "NoMove" [], .str ""] = .ok (.str "nothing") := by kernel_rfl
theorem bs_TooMany (fs : List (Str × D)) : F__law_bases [.ex "TooMany" fs] = .ok (.lst [.bl false, .bl false, .bl true, .bl false, .bl false, .bl true]) := by kernel_rfl
theorem hs_TooMany (d d' : D) : F__law_has [.ex "TooMany" [("most", d)], .str "most"] = .ok d := by kernel_rfl
theorem bs_Broken (fs : List (Str × D)) : F__law_bases [.ex "Broken" fs] = .ok (.lst [.bl false, .bl false, .bl true, .bl false, .bl false, .bl true]) := by kernel_rfl
theorem hs_Broken (d d' : D) : F__law_has [.ex "Broken" [("shown", d'), ("index", d)], .str "index"] = .ok d := by kernel_rfl
end KX

set_option Elab.async false
set_option linter.all false
set_option maxRecDepth 100000
set_option maxHeartbeats 0
namespace KX
open PySem PySem.Spec PyProof.Rows L2 DL
theorem repr1 {d : D} {t : Str} (h : shownD d = some t) : g1 reprD [d] = M.ret (.str t) := by
  show M.of ((shownD d).map D.str) = _
  rw [h]; rfl
theorem noth : shownD (.str "nothing") = some "'nothing'" := by kernel_rfl
theorem ne_same (t : Str) : gNeA (.str t) (.str t) = M.ret (D.bl false) := by
  unfold gNeA M.alt gSS
  simp [M.ret]
  rfl
theorem eq_same (t : Str) : gEqA (.str t) (.str t) = M.ret (D.bl true) := by
  unfold gEqA M.alt gSS
  simp [M.ret]
  rfl
/-- two texts of the same datum are told not to differ -/
theorem two_same {fa fb : M D} {ρ ρ1 ρ2 : Sls} {t : Str} (h1 : fa ρ = .ok (.str t) ρ1) (h2 : fb ρ1 = .ok (.str t) ρ2) : M.two fa fb gNeA ρ = .ok (.bl false) ρ2 := by
  unfold M.two M.bind
  rw [h1]; dsimp only; rw [h2]; dsimp only; rw [ne_same]; rfl
theorem two_eq {fa fb : M D} {ρ ρ1 ρ2 : Sls} {t : Str} (h1 : fa ρ = .ok (.str t) ρ1) (h2 : fb ρ1 = .ok (.str t) ρ2) : M.two fa fb gEqA ρ = .ok (.bl true) ρ2 := by
  unfold M.two M.bind
  rw [h1]; dsimp only; rw [h2]; dsimp only; rw [eq_same]; rfl
theorem repr_at {fs : M (List D)} {d : D} {t : Str} {ρ ρ1 : Sls} (h : shownD d = some t) (h1 : fs ρ = .ok [d] ρ1) : (fs.bind (g1 reprD)) ρ = .ok (.str t) ρ1 := by
  unfold M.bind; rw [h1]; dsimp only; rw [repr1 h]; rfl
theorem seq_nx {m k : M Out} {ρ ρ1 : Sls} (h : m ρ = .ok .nx ρ1) : (m.seq k) ρ = k ρ1 := by
  unfold M.seq M.bind; rw [h]
theorem loop_nx {g : Tg} {b : M Out} {d : D} {ds : List D} {ρ ρ1 ρ2 : Sls} (h : g d ρ = some ρ1) (h2 : b ρ1 = .ok .nx ρ2) : M.loop g b (d :: ds) ρ = M.loop g b ds ρ2 := by
  show (match g d ρ with | none => Ret.no | some ρ1 => _) = _
  rw [h]; dsimp only; rw [h2]
/-- if the test is told false -/
theorem if_no {t : M D} {x : M Out} {ρ ρ1 : Sls} (h : t ρ = .ok (.bl false) ρ1) : ((t.bind M.tb).bind fun b => if b = true then x else M.nx) ρ = .ok .nx ρ1 := by
  unfold M.bind; rw [h]; rfl
theorem bind_ok {f : M (List D)} {k : List D → M Out} {ds : List D} {ρ ρ1 : Sls} (h : f ρ = .ok ds ρ1) : (f.bind k) ρ = k ds ρ1 := by
  unfold M.bind; rw [h]
theorem andV_t {fa fb : M D} {ρ ρ1 : Sls} (h : fa ρ = .ok (.bl true) ρ1) : (fa.andV fb) ρ = fb ρ1 := by
  unfold M.andV M.bind; rw [h]
theorem ret_ok {f : M D} {d : D} {ρ ρ1 : Sls} (h : f ρ = .ok d ρ1) : (f.bind fun d => M.ret (Out.rt d)) ρ = .ok (Out.rt d) ρ1 := by
  unfold M.bind; rw [h]; rfl
end KX

set_option Elab.async false
set_option linter.all false
set_option maxRecDepth 100000
set_option maxHeartbeats 0
namespace KX
open PySem PySem.Spec PyProof.Rows L2 DL
theorem right_eq (d d' : D) (t t2 t3 : Str) (h1 : shownD d = some t) (h2 : shownD (.lst [d', d']) = some t2) (h3 : shownD (.lst [d, d, d]) = some t3) : F__law_right [d, d'] = .ok (.bl true) := by
  show resD (b__law_right.1 [.im d, .im d', .un, .un, .un, .un, .un, .un, .un]) = _
  unfold b__law_right
  dsimp only
  refine (congrArg resD (seq_nx (ρ1 := [.im d, .im d', .im (.lst (eL d d')), .im (.lst (nL d d')), .un, .un, .un, .un, .un]) (by kernel_rfl))).trans ?_
  refine (congrArg resD (seq_nx (ρ1 := [.im d, .im d', .im (.lst (eL d d')), .im (.lst (nL d d')), .im (.int 22), .im (.int 2), .im (.lst [.bl false, .bl false, .bl true, .bl false, .bl false, .bl true]), .im (.ex "Broken" [("shown", d'), ("index", d)]), .un]) ?_)).trans ?_
  · refine (bind_ok (ds := [.int 0, .int 1, .int 2, .int 3, .int 4, .int 5, .int 6, .int 7, .int 8, .int 9, .int 10, .int 11, .int 12, .int 13, .int 14, .int 15, .int 16, .int 17, .int 18, .int 19, .int 20, .int 21, .int 22]) (ρ1 := [.im d, .im d', .im (.lst (eL d d')), .im (.lst (nL d d')), .un, .un, .un, .un, .un]) (by kernel_rfl)).trans ?_
    refine (loop_nx (ρ1 := [.im d, .im d', .im (.lst (eL d d')), .im (.lst (nL d d')), .im (.int 0), .un, .un, .un, .un]) (ρ2 := [.im d, .im d', .im (.lst (eL d d')), .im (.lst (nL d d')), .im (.int 0), .im (.int 0), .im (.lst [.bl true, .bl false, .bl false, .bl true, .bl false, .bl false]), .im (.ex "InvalidText" [("given", d)]), .un]) (by kernel_rfl) ?_).trans ?_
    · refine (seq_nx (ρ1 := [.im d, .im d', .im (.lst (eL d d')), .im (.lst (nL d d')), .im (.int 0), .im (.int 0), .un, .un, .un]) (by kernel_rfl)).trans ((seq_nx (ρ1 := [.im d, .im d', .im (.lst (eL d d')), .im (.lst (nL d d')), .im (.int 0), .im (.int 0), .im (.lst [.bl true, .bl false, .bl false, .bl true, .bl false, .bl false]), .un, .un]) (by kernel_rfl)).trans ((bind_ok (ds := [.ex "InvalidText" [("given", d)], .ex "InvalidText" [("given", d)]]) (ρ1 := [.im d, .im d', .im (.lst (eL d d')), .im (.lst (nL d d')), .im (.int 0), .im (.int 0), .im (.lst [.bl true, .bl false, .bl false, .bl true, .bl false, .bl false]), .un, .un]) (by kernel_rfl)).trans ?_))
      refine (loop_nx (ρ1 := [.im d, .im d', .im (.lst (eL d d')), .im (.lst (nL d d')), .im (.int 0), .im (.int 0), .im (.lst [.bl true, .bl false, .bl false, .bl true, .bl false, .bl false]), .im (.ex "InvalidText" [("given", d)]), .un]) (ρ2 := [.im d, .im d', .im (.lst (eL d d')), .im (.lst (nL d d')), .im (.int 0), .im (.int 0), .im (.lst [.bl true, .bl false, .bl false, .bl true, .bl false, .bl false]), .im (.ex "InvalidText" [("given", d)]), .un]) (by kernel_rfl) ((seq_nx (ρ1 := [.im d, .im d', .im (.lst (eL d d')), .im (.lst (nL d d')), .im (.int 0), .im (.int 0), .im (.lst [.bl true, .bl false, .bl false, .bl true, .bl false, .bl false]), .im (.ex "InvalidText" [("given", d)]), .un]) (by kernel_rfl)).trans (if_no (ρ1 := [.im d, .im d', .im (.lst (eL d d')), .im (.lst (nL d d')), .im (.int 0), .im (.int 0), .im (.lst [.bl true, .bl false, .bl false, .bl true, .bl false, .bl false]), .im (.ex "InvalidText" [("given", d)]), .un]) (two_same (ρ1 := [.im d, .im d', .im (.lst (eL d d')), .im (.lst (nL d d')), .im (.int 0), .im (.int 0), .im (.lst [.bl true, .bl false, .bl false, .bl true, .bl false, .bl false]), .im (.ex "InvalidText" [("given", d)]), .un]) (repr_at (ρ1 := [.im d, .im d', .im (.lst (eL d d')), .im (.lst (nL d d')), .im (.int 0), .im (.int 0), .im (.lst [.bl true, .bl false, .bl false, .bl true, .bl false, .bl false]), .im (.ex "InvalidText" [("given", d)]), .un]) h1 (by kernel_rfl)) (repr_at (ρ1 := [.im d, .im d', .im (.lst (eL d d')), .im (.lst (nL d d')), .im (.int 0), .im (.int 0), .im (.lst [.bl true, .bl false, .bl false, .bl true, .bl false, .bl false]), .im (.ex "InvalidText" [("given", d)]), .un]) h1 (by kernel_rfl)))))).trans ((loop_nx (ρ1 := [.im d, .im d', .im (.lst (eL d d')), .im (.lst (nL d d')), .im (.int 0), .im (.int 0), .im (.lst [.bl true, .bl false, .bl false, .bl true, .bl false, .bl false]), .im (.ex "InvalidText" [("given", d)]), .un]) (ρ2 := [.im d, .im d', .im (.lst (eL d d')), .im (.lst (nL d d')), .im (.int 0), .im (.int 0), .im (.lst [.bl true, .bl false, .bl false, .bl true, .bl false, .bl false]), .im (.ex "InvalidText" [("given", d)]), .un]) (by kernel_rfl) ((seq_nx (ρ1 := [.im d, .im d', .im (.lst (eL d d')), .im (.lst (nL d d')), .im (.int 0), .im (.int 0), .im (.lst [.bl true, .bl false, .bl false, .bl true, .bl false, .bl false]), .im (.ex "InvalidText" [("given", d)]), .un]) (by kernel_rfl)).trans (if_no (ρ1 := [.im d, .im d', .im (.lst (eL d d')), .im (.lst (nL d d')), .im (.int 0), .im (.int 0), .im (.lst [.bl true, .bl false, .bl false, .bl true, .bl false, .bl false]), .im (.ex "InvalidText" [("given", d)]), .un]) (two_same (ρ1 := [.im d, .im d', .im (.lst (eL d d')), .im (.lst (nL d d')), .im (.int 0), .im (.int 0), .im (.lst [.bl true, .bl false, .bl false, .bl true, .bl false, .bl false]), .im (.ex "InvalidText" [("given", d)]), .un]) (repr_at (ρ1 := [.im d, .im d', .im (.lst (eL d d')), .im (.lst (nL d d')), .im (.int 0), .im (.int 0), .im (.lst [.bl true, .bl false, .bl false, .bl true, .bl false, .bl false]), .im (.ex "InvalidText" [("given", d)]), .un]) h1 (by kernel_rfl)) (repr_at (ρ1 := [.im d, .im d', .im (.lst (eL d d')), .im (.lst (nL d d')), .im (.int 0), .im (.int 0), .im (.lst [.bl true, .bl false, .bl false, .bl true, .bl false, .bl false]), .im (.ex "InvalidText" [("given", d)]), .un]) h1 (by kernel_rfl)))))).trans ?_)
      kernel_rfl
    refine (loop_nx (ρ1 := [.im d, .im d', .im (.lst (eL d d')), .im (.lst (nL d d')), .im (.int 1), .im (.int 0), .im (.lst [.bl true, .bl false, .bl false, .bl true, .bl false, .bl false]), .im (.ex "InvalidText" [("given", d)]), .un]) (ρ2 := [.im d, .im d', .im (.lst (eL d d')), .im (.lst (nL d d')), .im (.int 1), .im (.int 0), .im (.lst [.bl true, .bl false, .bl false, .bl true, .bl false, .bl false]), .im (.ex "InvalidNumber" [("given", d)]), .un]) (by kernel_rfl) ?_).trans ?_
    · refine (seq_nx (ρ1 := [.im d, .im d', .im (.lst (eL d d')), .im (.lst (nL d d')), .im (.int 1), .im (.int 0), .im (.lst [.bl true, .bl false, .bl false, .bl true, .bl false, .bl false]), .im (.ex "InvalidText" [("given", d)]), .un]) (by kernel_rfl)).trans ((seq_nx (ρ1 := [.im d, .im d', .im (.lst (eL d d')), .im (.lst (nL d d')), .im (.int 1), .im (.int 0), .im (.lst [.bl true, .bl false, .bl false, .bl true, .bl false, .bl false]), .im (.ex "InvalidText" [("given", d)]), .un]) (by kernel_rfl)).trans ((bind_ok (ds := [.ex "InvalidNumber" [("given", d)], .ex "InvalidNumber" [("given", d)]]) (ρ1 := [.im d, .im d', .im (.lst (eL d d')), .im (.lst (nL d d')), .im (.int 1), .im (.int 0), .im (.lst [.bl true, .bl false, .bl false, .bl true, .bl false, .bl false]), .im (.ex "InvalidText" [("given", d)]), .un]) (by kernel_rfl)).trans ?_))
      refine (loop_nx (ρ1 := [.im d, .im d', .im (.lst (eL d d')), .im (.lst (nL d d')), .im (.int 1), .im (.int 0), .im (.lst [.bl true, .bl false, .bl false, .bl true, .bl false, .bl false]), .im (.ex "InvalidNumber" [("given", d)]), .un]) (ρ2 := [.im d, .im d', .im (.lst (eL d d')), .im (.lst (nL d d')), .im (.int 1), .im (.int 0), .im (.lst [.bl true, .bl false, .bl false, .bl true, .bl false, .bl false]), .im (.ex "InvalidNumber" [("given", d)]), .un]) (by kernel_rfl) ((seq_nx (ρ1 := [.im d, .im d', .im (.lst (eL d d')), .im (.lst (nL d d')), .im (.int 1), .im (.int 0), .im (.lst [.bl true, .bl false, .bl false, .bl true, .bl false, .bl false]), .im (.ex "InvalidNumber" [("given", d)]), .un]) (by kernel_rfl)).trans (if_no (ρ1 := [.im d, .im d', .im (.lst (eL d d')), .im (.lst (nL d d')), .im (.int 1), .im (.int 0), .im (.lst [.bl true, .bl false, .bl false, .bl true, .bl false, .bl false]), .im (.ex "InvalidNumber" [("given", d)]), .un]) (two_same (ρ1 := [.im d, .im d', .im (.lst (eL d d')), .im (.lst (nL d d')), .im (.int 1), .im (.int 0), .im (.lst [.bl true, .bl false, .bl false, .bl true, .bl false, .bl false]), .im (.ex "InvalidNumber" [("given", d)]), .un]) (repr_at (ρ1 := [.im d, .im d', .im (.lst (eL d d')), .im (.lst (nL d d')), .im (.int 1), .im (.int 0), .im (.lst [.bl true, .bl false, .bl false, .bl true, .bl false, .bl false]), .im (.ex "InvalidNumber" [("given", d)]), .un]) h1 (by kernel_rfl)) (repr_at (ρ1 := [.im d, .im d', .im (.lst (eL d d')), .im (.lst (nL d d')), .im (.int 1), .im (.int 0), .im (.lst [.bl true, .bl false, .bl false, .bl true, .bl false, .bl false]), .im (.ex "InvalidNumber" [("given", d)]), .un]) h1 (by kernel_rfl)))))).trans ((loop_nx (ρ1 := [.im d, .im d', .im (.lst (eL d d')), .im (.lst (nL d d')), .im (.int 1), .im (.int 0), .im (.lst [.bl true, .bl false, .bl false, .bl true, .bl false, .bl false]), .im (.ex "InvalidNumber" [("given", d)]), .un]) (ρ2 := [.im d, .im d', .im (.lst (eL d d')), .im (.lst (nL d d')), .im (.int 1), .im (.int 0), .im (.lst [.bl true, .bl false, .bl false, .bl true, .bl false, .bl false]), .im (.ex "InvalidNumber" [("given", d)]), .un]) (by kernel_rfl) ((seq_nx (ρ1 := [.im d, .im d', .im (.lst (eL d d')), .im (.lst (nL d d')), .im (.int 1), .im (.int 0), .im (.lst [.bl true, .bl false, .bl false, .bl true, .bl false, .bl false]), .im (.ex "InvalidNumber" [("given", d)]), .un]) (by kernel_rfl)).trans (if_no (ρ1 := [.im d, .im d', .im (.lst (eL d d')), .im (.lst (nL d d')), .im (.int 1), .im (.int 0), .im (.lst [.bl true, .bl false, .bl false, .bl true, .bl false, .bl false]), .im (.ex "InvalidNumber" [("given", d)]), .un]) (two_same (ρ1 := [.im d, .im d', .im (.lst (eL d d')), .im (.lst (nL d d')), .im (.int 1), .im (.int 0), .im (.lst [.bl true, .bl false, .bl false, .bl true, .bl false, .bl false]), .im (.ex "InvalidNumber" [("given", d)]), .un]) (repr_at (ρ1 := [.im d, .im d', .im (.lst (eL d d')), .im (.lst (nL d d')), .im (.int 1), .im (.int 0), .im (.lst [.bl true, .bl false, .bl false, .bl true, .bl false, .bl false]), .im (.ex "InvalidNumber" [("given", d)]), .un]) h1 (by kernel_rfl)) (repr_at (ρ1 := [.im d, .im d', .im (.lst (eL d d')), .im (.lst (nL d d')), .im (.int 1), .im (.int 0), .im (.lst [.bl true, .bl false, .bl false, .bl true, .bl false, .bl false]), .im (.ex "InvalidNumber" [("given", d)]), .un]) h1 (by kernel_rfl)))))).trans ?_)
      kernel_rfl
    refine (loop_nx (ρ1 := [.im d, .im d', .im (.lst (eL d d')), .im (.lst (nL d d')), .im (.int 2), .im (.int 0), .im (.lst [.bl true, .bl false, .bl false, .bl true, .bl false, .bl false]), .im (.ex "InvalidNumber" [("given", d)]), .un]) (ρ2 := [.im d, .im d', .im (.lst (eL d d')), .im (.lst (nL d d')), .im (.int 2), .im (.int 0), .im (.lst [.bl true, .bl false, .bl false, .bl true, .bl false, .bl false]), .im (.ex "InvalidName" [("given", d)]), .un]) (by kernel_rfl) ?_).trans ?_
    · refine (seq_nx (ρ1 := [.im d, .im d', .im (.lst (eL d d')), .im (.lst (nL d d')), .im (.int 2), .im (.int 0), .im (.lst [.bl true, .bl false, .bl false, .bl true, .bl false, .bl false]), .im (.ex "InvalidNumber" [("given", d)]), .un]) (by kernel_rfl)).trans ((seq_nx (ρ1 := [.im d, .im d', .im (.lst (eL d d')), .im (.lst (nL d d')), .im (.int 2), .im (.int 0), .im (.lst [.bl true, .bl false, .bl false, .bl true, .bl false, .bl false]), .im (.ex "InvalidNumber" [("given", d)]), .un]) (by kernel_rfl)).trans ((bind_ok (ds := [.ex "InvalidName" [("given", d)], .ex "InvalidName" [("given", d)]]) (ρ1 := [.im d, .im d', .im (.lst (eL d d')), .im (.lst (nL d d')), .im (.int 2), .im (.int 0), .im (.lst [.bl true, .bl false, .bl false, .bl true, .bl false, .bl false]), .im (.ex "InvalidNumber" [("given", d)]), .un]) (by kernel_rfl)).trans ?_))
      refine (loop_nx (ρ1 := [.im d, .im d', .im (.lst (eL d d')), .im (.lst (nL d d')), .im (.int 2), .im (.int 0), .im (.lst [.bl true, .bl false, .bl false, .bl true, .bl false, .bl false]), .im (.ex "InvalidName" [("given", d)]), .un]) (ρ2 := [.im d, .im d', .im (.lst (eL d d')), .im (.lst (nL d d')), .im (.int 2), .im (.int 0), .im (.lst [.bl true, .bl false, .bl false, .bl true, .bl false, .bl false]), .im (.ex "InvalidName" [("given", d)]), .un]) (by kernel_rfl) ((seq_nx (ρ1 := [.im d, .im d', .im (.lst (eL d d')), .im (.lst (nL d d')), .im (.int 2), .im (.int 0), .im (.lst [.bl true, .bl false, .bl false, .bl true, .bl false, .bl false]), .im (.ex "InvalidName" [("given", d)]), .un]) (by kernel_rfl)).trans (if_no (ρ1 := [.im d, .im d', .im (.lst (eL d d')), .im (.lst (nL d d')), .im (.int 2), .im (.int 0), .im (.lst [.bl true, .bl false, .bl false, .bl true, .bl false, .bl false]), .im (.ex "InvalidName" [("given", d)]), .un]) (two_same (ρ1 := [.im d, .im d', .im (.lst (eL d d')), .im (.lst (nL d d')), .im (.int 2), .im (.int 0), .im (.lst [.bl true, .bl false, .bl false, .bl true, .bl false, .bl false]), .im (.ex "InvalidName" [("given", d)]), .un]) (repr_at (ρ1 := [.im d, .im d', .im (.lst (eL d d')), .im (.lst (nL d d')), .im (.int 2), .im (.int 0), .im (.lst [.bl true, .bl false, .bl false, .bl true, .bl false, .bl false]), .im (.ex "InvalidName" [("given", d)]), .un]) h1 (by kernel_rfl)) (repr_at (ρ1 := [.im d, .im d', .im (.lst (eL d d')), .im (.lst (nL d d')), .im (.int 2), .im (.int 0), .im (.lst [.bl true, .bl false, .bl false, .bl true, .bl false, .bl false]), .im (.ex "InvalidName" [("given", d)]), .un]) h1 (by kernel_rfl)))))).trans ((loop_nx (ρ1 := [.im d, .im d', .im (.lst (eL d d')), .im (.lst (nL d d')), .im (.int 2), .im (.int 0), .im (.lst [.bl true, .bl false, .bl false, .bl true, .bl false, .bl false]), .im (.ex "InvalidName" [("given", d)]), .un]) (ρ2 := [.im d, .im d', .im (.lst (eL d d')), .im (.lst (nL d d')), .im (.int 2), .im (.int 0), .im (.lst [.bl true, .bl false, .bl false, .bl true, .bl false, .bl false]), .im (.ex "InvalidName" [("given", d)]), .un]) (by kernel_rfl) ((seq_nx (ρ1 := [.im d, .im d', .im (.lst (eL d d')), .im (.lst (nL d d')), .im (.int 2), .im (.int 0), .im (.lst [.bl true, .bl false, .bl false, .bl true, .bl false, .bl false]), .im (.ex "InvalidName" [("given", d)]), .un]) (by kernel_rfl)).trans (if_no (ρ1 := [.im d, .im d', .im (.lst (eL d d')), .im (.lst (nL d d')), .im (.int 2), .im (.int 0), .im (.lst [.bl true, .bl false, .bl false, .bl true, .bl false, .bl false]), .im (.ex "InvalidName" [("given", d)]), .un]) (two_same (ρ1 := [.im d, .im d', .im (.lst (eL d d')), .im (.lst (nL d d')), .im (.int 2), .im (.int 0), .im (.lst [.bl true, .bl false, .bl false, .bl true, .bl false, .bl false]), .im (.ex "InvalidName" [("given", d)]), .un]) (repr_at (ρ1 := [.im d, .im d', .im (.lst (eL d d')), .im (.lst (nL d d')), .im (.int 2), .im (.int 0), .im (.lst [.bl true, .bl false, .bl false, .bl true, .bl false, .bl false]), .im (.ex "InvalidName" [("given", d)]), .un]) h1 (by kernel_rfl)) (repr_at (ρ1 := [.im d, .im d', .im (.lst (eL d d')), .im (.lst (nL d d')), .im (.int 2), .im (.int 0), .im (.lst [.bl true, .bl false, .bl false, .bl true, .bl false, .bl false]), .im (.ex "InvalidName" [("given", d)]), .un]) h1 (by kernel_rfl)))))).trans ?_)
      kernel_rfl
    refine (loop_nx (ρ1 := [.im d, .im d', .im (.lst (eL d d')), .im (.lst (nL d d')), .im (.int 3), .im (.int 0), .im (.lst [.bl true, .bl false, .bl false, .bl true, .bl false, .bl false]), .im (.ex "InvalidName" [("given", d)]), .un]) (ρ2 := [.im d, .im d', .im (.lst (eL d d')), .im (.lst (nL d d')), .im (.int 3), .im (.int 0), .im (.lst [.bl true, .bl false, .bl false, .bl true, .bl false, .bl false]), .im (.ex "InvalidIndex" [("given", d)]), .un]) (by kernel_rfl) ?_).trans ?_
    · refine (seq_nx (ρ1 := [.im d, .im d', .im (.lst (eL d d')), .im (.lst (nL d d')), .im (.int 3), .im (.int 0), .im (.lst [.bl true, .bl false, .bl false, .bl true, .bl false, .bl false]), .im (.ex "InvalidName" [("given", d)]), .un]) (by kernel_rfl)).trans ((seq_nx (ρ1 := [.im d, .im d', .im (.lst (eL d d')), .im (.lst (nL d d')), .im (.int 3), .im (.int 0), .im (.lst [.bl true, .bl false, .bl false, .bl true, .bl false, .bl false]), .im (.ex "InvalidName" [("given", d)]), .un]) (by kernel_rfl)).trans ((bind_ok (ds := [.ex "InvalidIndex" [("given", d)], .ex "InvalidIndex" [("given", d)]]) (ρ1 := [.im d, .im d', .im (.lst (eL d d')), .im (.lst (nL d d')), .im (.int 3), .im (.int 0), .im (.lst [.bl true, .bl false, .bl false, .bl true, .bl false, .bl false]), .im (.ex "InvalidName" [("given", d)]), .un]) (by kernel_rfl)).trans ?_))
      refine (loop_nx (ρ1 := [.im d, .im d', .im (.lst (eL d d')), .im (.lst (nL d d')), .im (.int 3), .im (.int 0), .im (.lst [.bl true, .bl false, .bl false, .bl true, .bl false, .bl false]), .im (.ex "InvalidIndex" [("given", d)]), .un]) (ρ2 := [.im d, .im d', .im (.lst (eL d d')), .im (.lst (nL d d')), .im (.int 3), .im (.int 0), .im (.lst [.bl true, .bl false, .bl false, .bl true, .bl false, .bl false]), .im (.ex "InvalidIndex" [("given", d)]), .un]) (by kernel_rfl) ((seq_nx (ρ1 := [.im d, .im d', .im (.lst (eL d d')), .im (.lst (nL d d')), .im (.int 3), .im (.int 0), .im (.lst [.bl true, .bl false, .bl false, .bl true, .bl false, .bl false]), .im (.ex "InvalidIndex" [("given", d)]), .un]) (by kernel_rfl)).trans (if_no (ρ1 := [.im d, .im d', .im (.lst (eL d d')), .im (.lst (nL d d')), .im (.int 3), .im (.int 0), .im (.lst [.bl true, .bl false, .bl false, .bl true, .bl false, .bl false]), .im (.ex "InvalidIndex" [("given", d)]), .un]) (two_same (ρ1 := [.im d, .im d', .im (.lst (eL d d')), .im (.lst (nL d d')), .im (.int 3), .im (.int 0), .im (.lst [.bl true, .bl false, .bl false, .bl true, .bl false, .bl false]), .im (.ex "InvalidIndex" [("given", d)]), .un]) (repr_at (ρ1 := [.im d, .im d', .im (.lst (eL d d')), .im (.lst (nL d d')), .im (.int 3), .im (.int 0), .im (.lst [.bl true, .bl false, .bl false, .bl true, .bl false, .bl false]), .im (.ex "InvalidIndex" [("given", d)]), .un]) h1 (by kernel_rfl)) (repr_at (ρ1 := [.im d, .im d', .im (.lst (eL d d')), .im (.lst (nL d d')), .im (.int 3), .im (.int 0), .im (.lst [.bl true, .bl false, .bl false, .bl true, .bl false, .bl false]), .im (.ex "InvalidIndex" [("given", d)]), .un]) h1 (by kernel_rfl)))))).trans ((loop_nx (ρ1 := [.im d, .im d', .im (.lst (eL d d')), .im (.lst (nL d d')), .im (.int 3), .im (.int 0), .im (.lst [.bl true, .bl false, .bl false, .bl true, .bl false, .bl false]), .im (.ex "InvalidIndex" [("given", d)]), .un]) (ρ2 := [.im d, .im d', .im (.lst (eL d d')), .im (.lst (nL d d')), .im (.int 3), .im (.int 0), .im (.lst [.bl true, .bl false, .bl false, .bl true, .bl false, .bl false]), .im (.ex "InvalidIndex" [("given", d)]), .un]) (by kernel_rfl) ((seq_nx (ρ1 := [.im d, .im d', .im (.lst (eL d d')), .im (.lst (nL d d')), .im (.int 3), .im (.int 0), .im (.lst [.bl true, .bl false, .bl false, .bl true, .bl false, .bl false]), .im (.ex "InvalidIndex" [("given", d)]), .un]) (by kernel_rfl)).trans (if_no (ρ1 := [.im d, .im d', .im (.lst (eL d d')), .im (.lst (nL d d')), .im (.int 3), .im (.int 0), .im (.lst [.bl true, .bl false, .bl false, .bl true, .bl false, .bl false]), .im (.ex "InvalidIndex" [("given", d)]), .un]) (two_same (ρ1 := [.im d, .im d', .im (.lst (eL d d')), .im (.lst (nL d d')), .im (.int 3), .im (.int 0), .im (.lst [.bl true, .bl false, .bl false, .bl true, .bl false, .bl false]), .im (.ex "InvalidIndex" [("given", d)]), .un]) (repr_at (ρ1 := [.im d, .im d', .im (.lst (eL d d')), .im (.lst (nL d d')), .im (.int 3), .im (.int 0), .im (.lst [.bl true, .bl false, .bl false, .bl true, .bl false, .bl false]), .im (.ex "InvalidIndex" [("given", d)]), .un]) h1 (by kernel_rfl)) (repr_at (ρ1 := [.im d, .im d', .im (.lst (eL d d')), .im (.lst (nL d d')), .im (.int 3), .im (.int 0), .im (.lst [.bl true, .bl false, .bl false, .bl true, .bl false, .bl false]), .im (.ex "InvalidIndex" [("given", d)]), .un]) h1 (by kernel_rfl)))))).trans ?_)
      kernel_rfl
    refine (loop_nx (ρ1 := [.im d, .im d', .im (.lst (eL d d')), .im (.lst (nL d d')), .im (.int 4), .im (.int 0), .im (.lst [.bl true, .bl false, .bl false, .bl true, .bl false, .bl false]), .im (.ex "InvalidIndex" [("given", d)]), .un]) (ρ2 := [.im d, .im d', .im (.lst (eL d d')), .im (.lst (nL d d')), .im (.int 4), .im (.int 0), .im (.lst [.bl true, .bl false, .bl false, .bl true, .bl false, .bl false]), .im (.ex "InvalidWord" [("given", d)]), .un]) (by kernel_rfl) ?_).trans ?_
    · refine (seq_nx (ρ1 := [.im d, .im d', .im (.lst (eL d d')), .im (.lst (nL d d')), .im (.int 4), .im (.int 0), .im (.lst [.bl true, .bl false, .bl false, .bl true, .bl false, .bl false]), .im (.ex "InvalidIndex" [("given", d)]), .un]) (by kernel_rfl)).trans ((seq_nx (ρ1 := [.im d, .im d', .im (.lst (eL d d')), .im (.lst (nL d d')), .im (.int 4), .im (.int 0), .im (.lst [.bl true, .bl false, .bl false, .bl true, .bl false, .bl false]), .im (.ex "InvalidIndex" [("given", d)]), .un]) (by kernel_rfl)).trans ((bind_ok (ds := [.ex "InvalidWord" [("given", d)], .ex "InvalidWord" [("given", d)]]) (ρ1 := [.im d, .im d', .im (.lst (eL d d')), .im (.lst (nL d d')), .im (.int 4), .im (.int 0), .im (.lst [.bl true, .bl false, .bl false, .bl true, .bl false, .bl false]), .im (.ex "InvalidIndex" [("given", d)]), .un]) (by kernel_rfl)).trans ?_))
      refine (loop_nx (ρ1 := [.im d, .im d', .im (.lst (eL d d')), .im (.lst (nL d d')), .im (.int 4), .im (.int 0), .im (.lst [.bl true, .bl false, .bl false, .bl true, .bl false, .bl false]), .im (.ex "InvalidWord" [("given", d)]), .un]) (ρ2 := [.im d, .im d', .im (.lst (eL d d')), .im (.lst (nL d d')), .im (.int 4), .im (.int 0), .im (.lst [.bl true, .bl false, .bl false, .bl true, .bl false, .bl false]), .im (.ex "InvalidWord" [("given", d)]), .un]) (by kernel_rfl) ((seq_nx (ρ1 := [.im d, .im d', .im (.lst (eL d d')), .im (.lst (nL d d')), .im (.int 4), .im (.int 0), .im (.lst [.bl true, .bl false, .bl false, .bl true, .bl false, .bl false]), .im (.ex "InvalidWord" [("given", d)]), .un]) (by kernel_rfl)).trans (if_no (ρ1 := [.im d, .im d', .im (.lst (eL d d')), .im (.lst (nL d d')), .im (.int 4), .im (.int 0), .im (.lst [.bl true, .bl false, .bl false, .bl true, .bl false, .bl false]), .im (.ex "InvalidWord" [("given", d)]), .un]) (two_same (ρ1 := [.im d, .im d', .im (.lst (eL d d')), .im (.lst (nL d d')), .im (.int 4), .im (.int 0), .im (.lst [.bl true, .bl false, .bl false, .bl true, .bl false, .bl false]), .im (.ex "InvalidWord" [("given", d)]), .un]) (repr_at (ρ1 := [.im d, .im d', .im (.lst (eL d d')), .im (.lst (nL d d')), .im (.int 4), .im (.int 0), .im (.lst [.bl true, .bl false, .bl false, .bl true, .bl false, .bl false]), .im (.ex "InvalidWord" [("given", d)]), .un]) h1 (by kernel_rfl)) (repr_at (ρ1 := [.im d, .im d', .im (.lst (eL d d')), .im (.lst (nL d d')), .im (.int 4), .im (.int 0), .im (.lst [.bl true, .bl false, .bl false, .bl true, .bl false, .bl false]), .im (.ex "InvalidWord" [("given", d)]), .un]) h1 (by kernel_rfl)))))).trans ((loop_nx (ρ1 := [.im d, .im d', .im (.lst (eL d d')), .im (.lst (nL d d')), .im (.int 4), .im (.int 0), .im (.lst [.bl true, .bl false, .bl false, .bl true, .bl false, .bl false]), .im (.ex "InvalidWord" [("given", d)]), .un]) (ρ2 := [.im d, .im d', .im (.lst (eL d d')), .im (.lst (nL d d')), .im (.int 4), .im (.int 0), .im (.lst [.bl true, .bl false, .bl false, .bl true, .bl false, .bl false]), .im (.ex "InvalidWord" [("given", d)]), .un]) (by kernel_rfl) ((seq_nx (ρ1 := [.im d, .im d', .im (.lst (eL d d')), .im (.lst (nL d d')), .im (.int 4), .im (.int 0), .im (.lst [.bl true, .bl false, .bl false, .bl true, .bl false, .bl false]), .im (.ex "InvalidWord" [("given", d)]), .un]) (by kernel_rfl)).trans (if_no (ρ1 := [.im d, .im d', .im (.lst (eL d d')), .im (.lst (nL d d')), .im (.int 4), .im (.int 0), .im (.lst [.bl true, .bl false, .bl false, .bl true, .bl false, .bl false]), .im (.ex "InvalidWord" [("given", d)]), .un]) (two_same (ρ1 := [.im d, .im d', .im (.lst (eL d d')), .im (.lst (nL d d')), .im (.int 4), .im (.int 0), .im (.lst [.bl true, .bl false, .bl false, .bl true, .bl false, .bl false]), .im (.ex "InvalidWord" [("given", d)]), .un]) (repr_at (ρ1 := [.im d, .im d', .im (.lst (eL d d')), .im (.lst (nL d d')), .im (.int 4), .im (.int 0), .im (.lst [.bl true, .bl false, .bl false, .bl true, .bl false, .bl false]), .im (.ex "InvalidWord" [("given", d)]), .un]) h1 (by kernel_rfl)) (repr_at (ρ1 := [.im d, .im d', .im (.lst (eL d d')), .im (.lst (nL d d')), .im (.int 4), .im (.int 0), .im (.lst [.bl true, .bl false, .bl false, .bl true, .bl false, .bl false]), .im (.ex "InvalidWord" [("given", d)]), .un]) h1 (by kernel_rfl)))))).trans ?_)
      kernel_rfl
    refine (loop_nx (ρ1 := [.im d, .im d', .im (.lst (eL d d')), .im (.lst (nL d d')), .im (.int 5), .im (.int 0), .im (.lst [.bl true, .bl false, .bl false, .bl true, .bl false, .bl false]), .im (.ex "InvalidWord" [("given", d)]), .un]) (ρ2 := [.im d, .im d', .im (.lst (eL d d')), .im (.lst (nL d d')), .im (.int 5), .im (.int 0), .im (.lst [.bl true, .bl false, .bl false, .bl true, .bl false, .bl false]), .im (.ex "InvalidLetter" [("given", d)]), .un]) (by kernel_rfl) ?_).trans ?_
    · refine (seq_nx (ρ1 := [.im d, .im d', .im (.lst (eL d d')), .im (.lst (nL d d')), .im (.int 5), .im (.int 0), .im (.lst [.bl true, .bl false, .bl false, .bl true, .bl false, .bl false]), .im (.ex "InvalidWord" [("given", d)]), .un]) (by kernel_rfl)).trans ((seq_nx (ρ1 := [.im d, .im d', .im (.lst (eL d d')), .im (.lst (nL d d')), .im (.int 5), .im (.int 0), .im (.lst [.bl true, .bl false, .bl false, .bl true, .bl false, .bl false]), .im (.ex "InvalidWord" [("given", d)]), .un]) (by kernel_rfl)).trans ((bind_ok (ds := [.ex "InvalidLetter" [("given", d)], .ex "InvalidLetter" [("given", d)]]) (ρ1 := [.im d, .im d', .im (.lst (eL d d')), .im (.lst (nL d d')), .im (.int 5), .im (.int 0), .im (.lst [.bl true, .bl false, .bl false, .bl true, .bl false, .bl false]), .im (.ex "InvalidWord" [("given", d)]), .un]) (by kernel_rfl)).trans ?_))
      refine (loop_nx (ρ1 := [.im d, .im d', .im (.lst (eL d d')), .im (.lst (nL d d')), .im (.int 5), .im (.int 0), .im (.lst [.bl true, .bl false, .bl false, .bl true, .bl false, .bl false]), .im (.ex "InvalidLetter" [("given", d)]), .un]) (ρ2 := [.im d, .im d', .im (.lst (eL d d')), .im (.lst (nL d d')), .im (.int 5), .im (.int 0), .im (.lst [.bl true, .bl false, .bl false, .bl true, .bl false, .bl false]), .im (.ex "InvalidLetter" [("given", d)]), .un]) (by kernel_rfl) ((seq_nx (ρ1 := [.im d, .im d', .im (.lst (eL d d')), .im (.lst (nL d d')), .im (.int 5), .im (.int 0), .im (.lst [.bl true, .bl false, .bl false, .bl true, .bl false, .bl false]), .im (.ex "InvalidLetter" [("given", d)]), .un]) (by kernel_rfl)).trans (if_no (ρ1 := [.im d, .im d', .im (.lst (eL d d')), .im (.lst (nL d d')), .im (.int 5), .im (.int 0), .im (.lst [.bl true, .bl false, .bl false, .bl true, .bl false, .bl false]), .im (.ex "InvalidLetter" [("given", d)]), .un]) (two_same (ρ1 := [.im d, .im d', .im (.lst (eL d d')), .im (.lst (nL d d')), .im (.int 5), .im (.int 0), .im (.lst [.bl true, .bl false, .bl false, .bl true, .bl false, .bl false]), .im (.ex "InvalidLetter" [("given", d)]), .un]) (repr_at (ρ1 := [.im d, .im d', .im (.lst (eL d d')), .im (.lst (nL d d')), .im (.int 5), .im (.int 0), .im (.lst [.bl true, .bl false, .bl false, .bl true, .bl false, .bl false]), .im (.ex "InvalidLetter" [("given", d)]), .un]) h1 (by kernel_rfl)) (repr_at (ρ1 := [.im d, .im d', .im (.lst (eL d d')), .im (.lst (nL d d')), .im (.int 5), .im (.int 0), .im (.lst [.bl true, .bl false, .bl false, .bl true, .bl false, .bl false]), .im (.ex "InvalidLetter" [("given", d)]), .un]) h1 (by kernel_rfl)))))).trans ((loop_nx (ρ1 := [.im d, .im d', .im (.lst (eL d d')), .im (.lst (nL d d')), .im (.int 5), .im (.int 0), .im (.lst [.bl true, .bl false, .bl false, .bl true, .bl false, .bl false]), .im (.ex "InvalidLetter" [("given", d)]), .un]) (ρ2 := [.im d, .im d', .im (.lst (eL d d')), .im (.lst (nL d d')), .im (.int 5), .im (.int 0), .im (.lst [.bl true, .bl false, .bl false, .bl true, .bl false, .bl false]), .im (.ex "InvalidLetter" [("given", d)]), .un]) (by kernel_rfl) ((seq_nx (ρ1 := [.im d, .im d', .im (.lst (eL d d')), .im (.lst (nL d d')), .im (.int 5), .im (.int 0), .im (.lst [.bl true, .bl false, .bl false, .bl true, .bl false, .bl false]), .im (.ex "InvalidLetter" [("given", d)]), .un]) (by kernel_rfl)).trans (if_no (ρ1 := [.im d, .im d', .im (.lst (eL d d')), .im (.lst (nL d d')), .im (.int 5), .im (.int 0), .im (.lst [.bl true, .bl false, .bl false, .bl true, .bl false, .bl false]), .im (.ex "InvalidLetter" [("given", d)]), .un]) (two_same (ρ1 := [.im d, .im d', .im (.lst (eL d d')), .im (.lst (nL d d')), .im (.int 5), .im (.int 0), .im (.lst [.bl true, .bl false, .bl false, .bl true, .bl false, .bl false]), .im (.ex "InvalidLetter" [("given", d)]), .un]) (repr_at (ρ1 := [.im d, .im d', .im (.lst (eL d d')), .im (.lst (nL d d')), .im (.int 5), .im (.int 0), .im (.lst [.bl true, .bl false, .bl false, .bl true, .bl false, .bl false]), .im (.ex "InvalidLetter" [("given", d)]), .un]) h1 (by kernel_rfl)) (repr_at (ρ1 := [.im d, .im d', .im (.lst (eL d d')), .im (.lst (nL d d')), .im (.int 5), .im (.int 0), .im (.lst [.bl true, .bl false, .bl false, .bl true, .bl false, .bl false]), .im (.ex "InvalidLetter" [("given", d)]), .un]) h1 (by kernel_rfl)))))).trans ?_)
      kernel_rfl
    refine (loop_nx (ρ1 := [.im d, .im d', .im (.lst (eL d d')), .im (.lst (nL d d')), .im (.int 6), .im (.int 0), .im (.lst [.bl true, .bl false, .bl false, .bl true, .bl false, .bl false]), .im (.ex "InvalidLetter" [("given", d)]), .un]) (ρ2 := [.im d, .im d', .im (.lst (eL d d')), .im (.lst (nL d d')), .im (.int 6), .im (.int 0), .im (.lst [.bl true, .bl false, .bl false, .bl true, .bl false, .bl false]), .im (.ex "InvalidLot" [("given", d)]), .un]) (by kernel_rfl) ?_).trans ?_
    · refine (seq_nx (ρ1 := [.im d, .im d', .im (.lst (eL d d')), .im (.lst (nL d d')), .im (.int 6), .im (.int 0), .im (.lst [.bl true, .bl false, .bl false, .bl true, .bl false, .bl false]), .im (.ex "InvalidLetter" [("given", d)]), .un]) (by kernel_rfl)).trans ((seq_nx (ρ1 := [.im d, .im d', .im (.lst (eL d d')), .im (.lst (nL d d')), .im (.int 6), .im (.int 0), .im (.lst [.bl true, .bl false, .bl false, .bl true, .bl false, .bl false]), .im (.ex "InvalidLetter" [("given", d)]), .un]) (by kernel_rfl)).trans ((bind_ok (ds := [.ex "InvalidLot" [("given", d)], .ex "InvalidLot" [("given", d)]]) (ρ1 := [.im d, .im d', .im (.lst (eL d d')), .im (.lst (nL d d')), .im (.int 6), .im (.int 0), .im (.lst [.bl true, .bl false, .bl false, .bl true, .bl false, .bl false]), .im (.ex "InvalidLetter" [("given", d)]), .un]) (by kernel_rfl)).trans ?_))
      refine (loop_nx (ρ1 := [.im d, .im d', .im (.lst (eL d d')), .im (.lst (nL d d')), .im (.int 6), .im (.int 0), .im (.lst [.bl true, .bl false, .bl false, .bl true, .bl false, .bl false]), .im (.ex "InvalidLot" [("given", d)]), .un]) (ρ2 := [.im d, .im d', .im (.lst (eL d d')), .im (.lst (nL d d')), .im (.int 6), .im (.int 0), .im (.lst [.bl true, .bl false, .bl false, .bl true, .bl false, .bl false]), .im (.ex "InvalidLot" [("given", d)]), .un]) (by kernel_rfl) ((seq_nx (ρ1 := [.im d, .im d', .im (.lst (eL d d')), .im (.lst (nL d d')), .im (.int 6), .im (.int 0), .im (.lst [.bl true, .bl false, .bl false, .bl true, .bl false, .bl false]), .im (.ex "InvalidLot" [("given", d)]), .un]) (by kernel_rfl)).trans (if_no (ρ1 := [.im d, .im d', .im (.lst (eL d d')), .im (.lst (nL d d')), .im (.int 6), .im (.int 0), .im (.lst [.bl true, .bl false, .bl false, .bl true, .bl false, .bl false]), .im (.ex "InvalidLot" [("given", d)]), .un]) (two_same (ρ1 := [.im d, .im d', .im (.lst (eL d d')), .im (.lst (nL d d')), .im (.int 6), .im (.int 0), .im (.lst [.bl true, .bl false, .bl false, .bl true, .bl false, .bl false]), .im (.ex "InvalidLot" [("given", d)]), .un]) (repr_at (ρ1 := [.im d, .im d', .im (.lst (eL d d')), .im (.lst (nL d d')), .im (.int 6), .im (.int 0), .im (.lst [.bl true, .bl false, .bl false, .bl true, .bl false, .bl false]), .im (.ex "InvalidLot" [("given", d)]), .un]) h1 (by kernel_rfl)) (repr_at (ρ1 := [.im d, .im d', .im (.lst (eL d d')), .im (.lst (nL d d')), .im (.int 6), .im (.int 0), .im (.lst [.bl true, .bl false, .bl false, .bl true, .bl false, .bl false]), .im (.ex "InvalidLot" [("given", d)]), .un]) h1 (by kernel_rfl)))))).trans ((loop_nx (ρ1 := [.im d, .im d', .im (.lst (eL d d')), .im (.lst (nL d d')), .im (.int 6), .im (.int 0), .im (.lst [.bl true, .bl false, .bl false, .bl true, .bl false, .bl false]), .im (.ex "InvalidLot" [("given", d)]), .un]) (ρ2 := [.im d, .im d', .im (.lst (eL d d')), .im (.lst (nL d d')), .im (.int 6), .im (.int 0), .im (.lst [.bl true, .bl false, .bl false, .bl true, .bl false, .bl false]), .im (.ex "InvalidLot" [("given", d)]), .un]) (by kernel_rfl) ((seq_nx (ρ1 := [.im d, .im d', .im (.lst (eL d d')), .im (.lst (nL d d')), .im (.int 6), .im (.int 0), .im (.lst [.bl true, .bl false, .bl false, .bl true, .bl false, .bl false]), .im (.ex "InvalidLot" [("given", d)]), .un]) (by kernel_rfl)).trans (if_no (ρ1 := [.im d, .im d', .im (.lst (eL d d')), .im (.lst (nL d d')), .im (.int 6), .im (.int 0), .im (.lst [.bl true, .bl false, .bl false, .bl true, .bl false, .bl false]), .im (.ex "InvalidLot" [("given", d)]), .un]) (two_same (ρ1 := [.im d, .im d', .im (.lst (eL d d')), .im (.lst (nL d d')), .im (.int 6), .im (.int 0), .im (.lst [.bl true, .bl false, .bl false, .bl true, .bl false, .bl false]), .im (.ex "InvalidLot" [("given", d)]), .un]) (repr_at (ρ1 := [.im d, .im d', .im (.lst (eL d d')), .im (.lst (nL d d')), .im (.int 6), .im (.int 0), .im (.lst [.bl true, .bl false, .bl false, .bl true, .bl false, .bl false]), .im (.ex "InvalidLot" [("given", d)]), .un]) h1 (by kernel_rfl)) (repr_at (ρ1 := [.im d, .im d', .im (.lst (eL d d')), .im (.lst (nL d d')), .im (.int 6), .im (.int 0), .im (.lst [.bl true, .bl false, .bl false, .bl true, .bl false, .bl false]), .im (.ex "InvalidLot" [("given", d)]), .un]) h1 (by kernel_rfl)))))).trans ?_)
      kernel_rfl
    refine (loop_nx (ρ1 := [.im d, .im d', .im (.lst (eL d d')), .im (.lst (nL d d')), .im (.int 7), .im (.int 0), .im (.lst [.bl true, .bl false, .bl false, .bl true, .bl false, .bl false]), .im (.ex "InvalidLot" [("given", d)]), .un]) (ρ2 := [.im d, .im d', .im (.lst (eL d d')), .im (.lst (nL d d')), .im (.int 7), .im (.int 0), .im (.lst [.bl true, .bl false, .bl false, .bl true, .bl false, .bl false]), .im (.ex "InvalidClaim" [("given", d)]), .un]) (by kernel_rfl) ?_).trans ?_
    · refine (seq_nx (ρ1 := [.im d, .im d', .im (.lst (eL d d')), .im (.lst (nL d d')), .im (.int 7), .im (.int 0), .im (.lst [.bl true, .bl false, .bl false, .bl true, .bl false, .bl false]), .im (.ex "InvalidLot" [("given", d)]), .un]) (by kernel_rfl)).trans ((seq_nx (ρ1 := [.im d, .im d', .im (.lst (eL d d')), .im (.lst (nL d d')), .im (.int 7), .im (.int 0), .im (.lst [.bl true, .bl false, .bl false, .bl true, .bl false, .bl false]), .im (.ex "InvalidLot" [("given", d)]), .un]) (by kernel_rfl)).trans ((bind_ok (ds := [.ex "InvalidClaim" [("given", d)], .ex "InvalidClaim" [("given", d)]]) (ρ1 := [.im d, .im d', .im (.lst (eL d d')), .im (.lst (nL d d')), .im (.int 7), .im (.int 0), .im (.lst [.bl true, .bl false, .bl false, .bl true, .bl false, .bl false]), .im (.ex "InvalidLot" [("given", d)]), .un]) (by kernel_rfl)).trans ?_))
      refine (loop_nx (ρ1 := [.im d, .im d', .im (.lst (eL d d')), .im (.lst (nL d d')), .im (.int 7), .im (.int 0), .im (.lst [.bl true, .bl false, .bl false, .bl true, .bl false, .bl false]), .im (.ex "InvalidClaim" [("given", d)]), .un]) (ρ2 := [.im d, .im d', .im (.lst (eL d d')), .im (.lst (nL d d')), .im (.int 7), .im (.int 0), .im (.lst [.bl true, .bl false, .bl false, .bl true, .bl false, .bl false]), .im (.ex "InvalidClaim" [("given", d)]), .un]) (by kernel_rfl) ((seq_nx (ρ1 := [.im d, .im d', .im (.lst (eL d d')), .im (.lst (nL d d')), .im (.int 7), .im (.int 0), .im (.lst [.bl true, .bl false, .bl false, .bl true, .bl false, .bl false]), .im (.ex "InvalidClaim" [("given", d)]), .un]) (by kernel_rfl)).trans (if_no (ρ1 := [.im d, .im d', .im (.lst (eL d d')), .im (.lst (nL d d')), .im (.int 7), .im (.int 0), .im (.lst [.bl true, .bl false, .bl false, .bl true, .bl false, .bl false]), .im (.ex "InvalidClaim" [("given", d)]), .un]) (two_same (ρ1 := [.im d, .im d', .im (.lst (eL d d')), .im (.lst (nL d d')), .im (.int 7), .im (.int 0), .im (.lst [.bl true, .bl false, .bl false, .bl true, .bl false, .bl false]), .im (.ex "InvalidClaim" [("given", d)]), .un]) (repr_at (ρ1 := [.im d, .im d', .im (.lst (eL d d')), .im (.lst (nL d d')), .im (.int 7), .im (.int 0), .im (.lst [.bl true, .bl false, .bl false, .bl true, .bl false, .bl false]), .im (.ex "InvalidClaim" [("given", d)]), .un]) h1 (by kernel_rfl)) (repr_at (ρ1 := [.im d, .im d', .im (.lst (eL d d')), .im (.lst (nL d d')), .im (.int 7), .im (.int 0), .im (.lst [.bl true, .bl false, .bl false, .bl true, .bl false, .bl false]), .im (.ex "InvalidClaim" [("given", d)]), .un]) h1 (by kernel_rfl)))))).trans ((loop_nx (ρ1 := [.im d, .im d', .im (.lst (eL d d')), .im (.lst (nL d d')), .im (.int 7), .im (.int 0), .im (.lst [.bl true, .bl false, .bl false, .bl true, .bl false, .bl false]), .im (.ex "InvalidClaim" [("given", d)]), .un]) (ρ2 := [.im d, .im d', .im (.lst (eL d d')), .im (.lst (nL d d')), .im (.int 7), .im (.int 0), .im (.lst [.bl true, .bl false, .bl false, .bl true, .bl false, .bl false]), .im (.ex "InvalidClaim" [("given", d)]), .un]) (by kernel_rfl) ((seq_nx (ρ1 := [.im d, .im d', .im (.lst (eL d d')), .im (.lst (nL d d')), .im (.int 7), .im (.int 0), .im (.lst [.bl true, .bl false, .bl false, .bl true, .bl false, .bl false]), .im (.ex "InvalidClaim" [("given", d)]), .un]) (by kernel_rfl)).trans (if_no (ρ1 := [.im d, .im d', .im (.lst (eL d d')), .im (.lst (nL d d')), .im (.int 7), .im (.int 0), .im (.lst [.bl true, .bl false, .bl false, .bl true, .bl false, .bl false]), .im (.ex "InvalidClaim" [("given", d)]), .un]) (two_same (ρ1 := [.im d, .im d', .im (.lst (eL d d')), .im (.lst (nL d d')), .im (.int 7), .im (.int 0), .im (.lst [.bl true, .bl false, .bl false, .bl true, .bl false, .bl false]), .im (.ex "InvalidClaim" [("given", d)]), .un]) (repr_at (ρ1 := [.im d, .im d', .im (.lst (eL d d')), .im (.lst (nL d d')), .im (.int 7), .im (.int 0), .im (.lst [.bl true, .bl false, .bl false, .bl true, .bl false, .bl false]), .im (.ex "InvalidClaim" [("given", d)]), .un]) h1 (by kernel_rfl)) (repr_at (ρ1 := [.im d, .im d', .im (.lst (eL d d')), .im (.lst (nL d d')), .im (.int 7), .im (.int 0), .im (.lst [.bl true, .bl false, .bl false, .bl true, .bl false, .bl false]), .im (.ex "InvalidClaim" [("given", d)]), .un]) h1 (by kernel_rfl)))))).trans ?_)
      kernel_rfl
    refine (loop_nx (ρ1 := [.im d, .im d', .im (.lst (eL d d')), .im (.lst (nL d d')), .im (.int 8), .im (.int 0), .im (.lst [.bl true, .bl false, .bl false, .bl true, .bl false, .bl false]), .im (.ex "InvalidClaim" [("given", d)]), .un]) (ρ2 := [.im d, .im d', .im (.lst (eL d d')), .im (.lst (nL d d')), .im (.int 8), .im (.int 0), .im (.lst [.bl true, .bl false, .bl false, .bl true, .bl false, .bl false]), .im (.ex "InvalidCommand" [("given", d)]), .un]) (by kernel_rfl) ?_).trans ?_
    · refine (seq_nx (ρ1 := [.im d, .im d', .im (.lst (eL d d')), .im (.lst (nL d d')), .im (.int 8), .im (.int 0), .im (.lst [.bl true, .bl false, .bl false, .bl true, .bl false, .bl false]), .im (.ex "InvalidClaim" [("given", d)]), .un]) (by kernel_rfl)).trans ((seq_nx (ρ1 := [.im d, .im d', .im (.lst (eL d d')), .im (.lst (nL d d')), .im (.int 8), .im (.int 0), .im (.lst [.bl true, .bl false, .bl false, .bl true, .bl false, .bl false]), .im (.ex "InvalidClaim" [("given", d)]), .un]) (by kernel_rfl)).trans ((bind_ok (ds := [.ex "InvalidCommand" [("given", d)], .ex "InvalidCommand" [("given", d)]]) (ρ1 := [.im d, .im d', .im (.lst (eL d d')), .im (.lst (nL d d')), .im (.int 8), .im (.int 0), .im (.lst [.bl true, .bl false, .bl false, .bl true, .bl false, .bl false]), .im (.ex "InvalidClaim" [("given", d)]), .un]) (by kernel_rfl)).trans ?_))
      refine (loop_nx (ρ1 := [.im d, .im d', .im (.lst (eL d d')), .im (.lst (nL d d')), .im (.int 8), .im (.int 0), .im (.lst [.bl true, .bl false, .bl false, .bl true, .bl false, .bl false]), .im (.ex "InvalidCommand" [("given", d)]), .un]) (ρ2 := [.im d, .im d', .im (.lst (eL d d')), .im (.lst (nL d d')), .im (.int 8), .im (.int 0), .im (.lst [.bl true, .bl false, .bl false, .bl true, .bl false, .bl false]), .im (.ex "InvalidCommand" [("given", d)]), .un]) (by kernel_rfl) ((seq_nx (ρ1 := [.im d, .im d', .im (.lst (eL d d')), .im (.lst (nL d d')), .im (.int 8), .im (.int 0), .im (.lst [.bl true, .bl false, .bl false, .bl true, .bl false, .bl false]), .im (.ex "InvalidCommand" [("given", d)]), .un]) (by kernel_rfl)).trans (if_no (ρ1 := [.im d, .im d', .im (.lst (eL d d')), .im (.lst (nL d d')), .im (.int 8), .im (.int 0), .im (.lst [.bl true, .bl false, .bl false, .bl true, .bl false, .bl false]), .im (.ex "InvalidCommand" [("given", d)]), .un]) (two_same (ρ1 := [.im d, .im d', .im (.lst (eL d d')), .im (.lst (nL d d')), .im (.int 8), .im (.int 0), .im (.lst [.bl true, .bl false, .bl false, .bl true, .bl false, .bl false]), .im (.ex "InvalidCommand" [("given", d)]), .un]) (repr_at (ρ1 := [.im d, .im d', .im (.lst (eL d d')), .im (.lst (nL d d')), .im (.int 8), .im (.int 0), .im (.lst [.bl true, .bl false, .bl false, .bl true, .bl false, .bl false]), .im (.ex "InvalidCommand" [("given", d)]), .un]) h1 (by kernel_rfl)) (repr_at (ρ1 := [.im d, .im d', .im (.lst (eL d d')), .im (.lst (nL d d')), .im (.int 8), .im (.int 0), .im (.lst [.bl true, .bl false, .bl false, .bl true, .bl false, .bl false]), .im (.ex "InvalidCommand" [("given", d)]), .un]) h1 (by kernel_rfl)))))).trans ((loop_nx (ρ1 := [.im d, .im d', .im (.lst (eL d d')), .im (.lst (nL d d')), .im (.int 8), .im (.int 0), .im (.lst [.bl true, .bl false, .bl false, .bl true, .bl false, .bl false]), .im (.ex "InvalidCommand" [("given", d)]), .un]) (ρ2 := [.im d, .im d', .im (.lst (eL d d')), .im (.lst (nL d d')), .im (.int 8), .im (.int 0), .im (.lst [.bl true, .bl false, .bl false, .bl true, .bl false, .bl false]), .im (.ex "InvalidCommand" [("given", d)]), .un]) (by kernel_rfl) ((seq_nx (ρ1 := [.im d, .im d', .im (.lst (eL d d')), .im (.lst (nL d d')), .im (.int 8), .im (.int 0), .im (.lst [.bl true, .bl false, .bl false, .bl true, .bl false, .bl false]), .im (.ex "InvalidCommand" [("given", d)]), .un]) (by kernel_rfl)).trans (if_no (ρ1 := [.im d, .im d', .im (.lst (eL d d')), .im (.lst (nL d d')), .im (.int 8), .im (.int 0), .im (.lst [.bl true, .bl false, .bl false, .bl true, .bl false, .bl false]), .im (.ex "InvalidCommand" [("given", d)]), .un]) (two_same (ρ1 := [.im d, .im d', .im (.lst (eL d d')), .im (.lst (nL d d')), .im (.int 8), .im (.int 0), .im (.lst [.bl true, .bl false, .bl false, .bl true, .bl false, .bl false]), .im (.ex "InvalidCommand" [("given", d)]), .un]) (repr_at (ρ1 := [.im d, .im d', .im (.lst (eL d d')), .im (.lst (nL d d')), .im (.int 8), .im (.int 0), .im (.lst [.bl true, .bl false, .bl false, .bl true, .bl false, .bl false]), .im (.ex "InvalidCommand" [("given", d)]), .un]) h1 (by kernel_rfl)) (repr_at (ρ1 := [.im d, .im d', .im (.lst (eL d d')), .im (.lst (nL d d')), .im (.int 8), .im (.int 0), .im (.lst [.bl true, .bl false, .bl false, .bl true, .bl false, .bl false]), .im (.ex "InvalidCommand" [("given", d)]), .un]) h1 (by kernel_rfl)))))).trans ?_)
      kernel_rfl
    refine (loop_nx (ρ1 := [.im d, .im d', .im (.lst (eL d d')), .im (.lst (nL d d')), .im (.int 9), .im (.int 0), .im (.lst [.bl true, .bl false, .bl false, .bl true, .bl false, .bl false]), .im (.ex "InvalidCommand" [("given", d)]), .un]) (ρ2 := [.im d, .im d', .im (.lst (eL d d')), .im (.lst (nL d d')), .im (.int 9), .im (.int 0), .im (.lst [.bl true, .bl false, .bl false, .bl true, .bl false, .bl false]), .im (.ex "NotMirrors" [("given", d)]), .un]) (by kernel_rfl) ?_).trans ?_
    · refine (seq_nx (ρ1 := [.im d, .im d', .im (.lst (eL d d')), .im (.lst (nL d d')), .im (.int 9), .im (.int 0), .im (.lst [.bl true, .bl false, .bl false, .bl true, .bl false, .bl false]), .im (.ex "InvalidCommand" [("given", d)]), .un]) (by kernel_rfl)).trans ((seq_nx (ρ1 := [.im d, .im d', .im (.lst (eL d d')), .im (.lst (nL d d')), .im (.int 9), .im (.int 0), .im (.lst [.bl true, .bl false, .bl false, .bl true, .bl false, .bl false]), .im (.ex "InvalidCommand" [("given", d)]), .un]) (by kernel_rfl)).trans ((bind_ok (ds := [.ex "NotMirrors" [("given", d)], .ex "NotMirrors" [("given", d)]]) (ρ1 := [.im d, .im d', .im (.lst (eL d d')), .im (.lst (nL d d')), .im (.int 9), .im (.int 0), .im (.lst [.bl true, .bl false, .bl false, .bl true, .bl false, .bl false]), .im (.ex "InvalidCommand" [("given", d)]), .un]) (by kernel_rfl)).trans ?_))
      refine (loop_nx (ρ1 := [.im d, .im d', .im (.lst (eL d d')), .im (.lst (nL d d')), .im (.int 9), .im (.int 0), .im (.lst [.bl true, .bl false, .bl false, .bl true, .bl false, .bl false]), .im (.ex "NotMirrors" [("given", d)]), .un]) (ρ2 := [.im d, .im d', .im (.lst (eL d d')), .im (.lst (nL d d')), .im (.int 9), .im (.int 0), .im (.lst [.bl true, .bl false, .bl false, .bl true, .bl false, .bl false]), .im (.ex "NotMirrors" [("given", d)]), .un]) (by kernel_rfl) ((seq_nx (ρ1 := [.im d, .im d', .im (.lst (eL d d')), .im (.lst (nL d d')), .im (.int 9), .im (.int 0), .im (.lst [.bl true, .bl false, .bl false, .bl true, .bl false, .bl false]), .im (.ex "NotMirrors" [("given", d)]), .un]) (by kernel_rfl)).trans (if_no (ρ1 := [.im d, .im d', .im (.lst (eL d d')), .im (.lst (nL d d')), .im (.int 9), .im (.int 0), .im (.lst [.bl true, .bl false, .bl false, .bl true, .bl false, .bl false]), .im (.ex "NotMirrors" [("given", d)]), .un]) (two_same (ρ1 := [.im d, .im d', .im (.lst (eL d d')), .im (.lst (nL d d')), .im (.int 9), .im (.int 0), .im (.lst [.bl true, .bl false, .bl false, .bl true, .bl false, .bl false]), .im (.ex "NotMirrors" [("given", d)]), .un]) (repr_at (ρ1 := [.im d, .im d', .im (.lst (eL d d')), .im (.lst (nL d d')), .im (.int 9), .im (.int 0), .im (.lst [.bl true, .bl false, .bl false, .bl true, .bl false, .bl false]), .im (.ex "NotMirrors" [("given", d)]), .un]) h1 (by kernel_rfl)) (repr_at (ρ1 := [.im d, .im d', .im (.lst (eL d d')), .im (.lst (nL d d')), .im (.int 9), .im (.int 0), .im (.lst [.bl true, .bl false, .bl false, .bl true, .bl false, .bl false]), .im (.ex "NotMirrors" [("given", d)]), .un]) h1 (by kernel_rfl)))))).trans ((loop_nx (ρ1 := [.im d, .im d', .im (.lst (eL d d')), .im (.lst (nL d d')), .im (.int 9), .im (.int 0), .im (.lst [.bl true, .bl false, .bl false, .bl true, .bl false, .bl false]), .im (.ex "NotMirrors" [("given", d)]), .un]) (ρ2 := [.im d, .im d', .im (.lst (eL d d')), .im (.lst (nL d d')), .im (.int 9), .im (.int 0), .im (.lst [.bl true, .bl false, .bl false, .bl true, .bl false, .bl false]), .im (.ex "NotMirrors" [("given", d)]), .un]) (by kernel_rfl) ((seq_nx (ρ1 := [.im d, .im d', .im (.lst (eL d d')), .im (.lst (nL d d')), .im (.int 9), .im (.int 0), .im (.lst [.bl true, .bl false, .bl false, .bl true, .bl false, .bl false]), .im (.ex "NotMirrors" [("given", d)]), .un]) (by kernel_rfl)).trans (if_no (ρ1 := [.im d, .im d', .im (.lst (eL d d')), .im (.lst (nL d d')), .im (.int 9), .im (.int 0), .im (.lst [.bl true, .bl false, .bl false, .bl true, .bl false, .bl false]), .im (.ex "NotMirrors" [("given", d)]), .un]) (two_same (ρ1 := [.im d, .im d', .im (.lst (eL d d')), .im (.lst (nL d d')), .im (.int 9), .im (.int 0), .im (.lst [.bl true, .bl false, .bl false, .bl true, .bl false, .bl false]), .im (.ex "NotMirrors" [("given", d)]), .un]) (repr_at (ρ1 := [.im d, .im d', .im (.lst (eL d d')), .im (.lst (nL d d')), .im (.int 9), .im (.int 0), .im (.lst [.bl true, .bl false, .bl false, .bl true, .bl false, .bl false]), .im (.ex "NotMirrors" [("given", d)]), .un]) h1 (by kernel_rfl)) (repr_at (ρ1 := [.im d, .im d', .im (.lst (eL d d')), .im (.lst (nL d d')), .im (.int 9), .im (.int 0), .im (.lst [.bl true, .bl false, .bl false, .bl true, .bl false, .bl false]), .im (.ex "NotMirrors" [("given", d)]), .un]) h1 (by kernel_rfl)))))).trans ?_)
      kernel_rfl
    refine (loop_nx (ρ1 := [.im d, .im d', .im (.lst (eL d d')), .im (.lst (nL d d')), .im (.int 10), .im (.int 0), .im (.lst [.bl true, .bl false, .bl false, .bl true, .bl false, .bl false]), .im (.ex "NotMirrors" [("given", d)]), .un]) (ρ2 := [.im d, .im d', .im (.lst (eL d d')), .im (.lst (nL d d')), .im (.int 10), .im (.int 0), .im (.lst [.bl true, .bl false, .bl false, .bl true, .bl false, .bl false]), .im (.ex "InvalidAngles" [("index", d)]), .un]) (by kernel_rfl) ?_).trans ?_
    · refine (seq_nx (ρ1 := [.im d, .im d', .im (.lst (eL d d')), .im (.lst (nL d d')), .im (.int 10), .im (.int 0), .im (.lst [.bl true, .bl false, .bl false, .bl true, .bl false, .bl false]), .im (.ex "NotMirrors" [("given", d)]), .un]) (by kernel_rfl)).trans ((seq_nx (ρ1 := [.im d, .im d', .im (.lst (eL d d')), .im (.lst (nL d d')), .im (.int 10), .im (.int 0), .im (.lst [.bl true, .bl false, .bl false, .bl true, .bl false, .bl false]), .im (.ex "NotMirrors" [("given", d)]), .un]) (by kernel_rfl)).trans ((bind_ok (ds := [.ex "InvalidAngles" [("index", d)], .ex "InvalidAngles" [("index", d)]]) (ρ1 := [.im d, .im d', .im (.lst (eL d d')), .im (.lst (nL d d')), .im (.int 10), .im (.int 0), .im (.lst [.bl true, .bl false, .bl false, .bl true, .bl false, .bl false]), .im (.ex "NotMirrors" [("given", d)]), .un]) (by kernel_rfl)).trans ?_))
      refine (loop_nx (ρ1 := [.im d, .im d', .im (.lst (eL d d')), .im (.lst (nL d d')), .im (.int 10), .im (.int 0), .im (.lst [.bl true, .bl false, .bl false, .bl true, .bl false, .bl false]), .im (.ex "InvalidAngles" [("index", d)]), .un]) (ρ2 := [.im d, .im d', .im (.lst (eL d d')), .im (.lst (nL d d')), .im (.int 10), .im (.int 0), .im (.lst [.bl true, .bl false, .bl false, .bl true, .bl false, .bl false]), .im (.ex "InvalidAngles" [("index", d)]), .un]) (by kernel_rfl) ((seq_nx (ρ1 := [.im d, .im d', .im (.lst (eL d d')), .im (.lst (nL d d')), .im (.int 10), .im (.int 0), .im (.lst [.bl true, .bl false, .bl false, .bl true, .bl false, .bl false]), .im (.ex "InvalidAngles" [("index", d)]), .un]) (by kernel_rfl)).trans (if_no (ρ1 := [.im d, .im d', .im (.lst (eL d d')), .im (.lst (nL d d')), .im (.int 10), .im (.int 0), .im (.lst [.bl true, .bl false, .bl false, .bl true, .bl false, .bl false]), .im (.ex "InvalidAngles" [("index", d)]), .un]) (two_same (ρ1 := [.im d, .im d', .im (.lst (eL d d')), .im (.lst (nL d d')), .im (.int 10), .im (.int 0), .im (.lst [.bl true, .bl false, .bl false, .bl true, .bl false, .bl false]), .im (.ex "InvalidAngles" [("index", d)]), .un]) (repr_at (ρ1 := [.im d, .im d', .im (.lst (eL d d')), .im (.lst (nL d d')), .im (.int 10), .im (.int 0), .im (.lst [.bl true, .bl false, .bl false, .bl true, .bl false, .bl false]), .im (.ex "InvalidAngles" [("index", d)]), .un]) h1 (by kernel_rfl)) (repr_at (ρ1 := [.im d, .im d', .im (.lst (eL d d')), .im (.lst (nL d d')), .im (.int 10), .im (.int 0), .im (.lst [.bl true, .bl false, .bl false, .bl true, .bl false, .bl false]), .im (.ex "InvalidAngles" [("index", d)]), .un]) h1 (by kernel_rfl)))))).trans ((loop_nx (ρ1 := [.im d, .im d', .im (.lst (eL d d')), .im (.lst (nL d d')), .im (.int 10), .im (.int 0), .im (.lst [.bl true, .bl false, .bl false, .bl true, .bl false, .bl false]), .im (.ex "InvalidAngles" [("index", d)]), .un]) (ρ2 := [.im d, .im d', .im (.lst (eL d d')), .im (.lst (nL d d')), .im (.int 10), .im (.int 0), .im (.lst [.bl true, .bl false, .bl false, .bl true, .bl false, .bl false]), .im (.ex "InvalidAngles" [("index", d)]), .un]) (by kernel_rfl) ((seq_nx (ρ1 := [.im d, .im d', .im (.lst (eL d d')), .im (.lst (nL d d')), .im (.int 10), .im (.int 0), .im (.lst [.bl true, .bl false, .bl false, .bl true, .bl false, .bl false]), .im (.ex "InvalidAngles" [("index", d)]), .un]) (by kernel_rfl)).trans (if_no (ρ1 := [.im d, .im d', .im (.lst (eL d d')), .im (.lst (nL d d')), .im (.int 10), .im (.int 0), .im (.lst [.bl true, .bl false, .bl false, .bl true, .bl false, .bl false]), .im (.ex "InvalidAngles" [("index", d)]), .un]) (two_same (ρ1 := [.im d, .im d', .im (.lst (eL d d')), .im (.lst (nL d d')), .im (.int 10), .im (.int 0), .im (.lst [.bl true, .bl false, .bl false, .bl true, .bl false, .bl false]), .im (.ex "InvalidAngles" [("index", d)]), .un]) (repr_at (ρ1 := [.im d, .im d', .im (.lst (eL d d')), .im (.lst (nL d d')), .im (.int 10), .im (.int 0), .im (.lst [.bl true, .bl false, .bl false, .bl true, .bl false, .bl false]), .im (.ex "InvalidAngles" [("index", d)]), .un]) h1 (by kernel_rfl)) (repr_at (ρ1 := [.im d, .im d', .im (.lst (eL d d')), .im (.lst (nL d d')), .im (.int 10), .im (.int 0), .im (.lst [.bl true, .bl false, .bl false, .bl true, .bl false, .bl false]), .im (.ex "InvalidAngles" [("index", d)]), .un]) h1 (by kernel_rfl)))))).trans ?_)
      kernel_rfl
    refine (loop_nx (ρ1 := [.im d, .im d', .im (.lst (eL d d')), .im (.lst (nL d d')), .im (.int 11), .im (.int 0), .im (.lst [.bl true, .bl false, .bl false, .bl true, .bl false, .bl false]), .im (.ex "InvalidAngles" [("index", d)]), .un]) (ρ2 := [.im d, .im d', .im (.lst (eL d d')), .im (.lst (nL d d')), .im (.int 11), .im (.int 0), .im (.lst [.bl true, .bl false, .bl false, .bl true, .bl false, .bl false]), .im (.ex "InvalidRow" [("index", d)]), .un]) (by kernel_rfl) ?_).trans ?_
    · refine (seq_nx (ρ1 := [.im d, .im d', .im (.lst (eL d d')), .im (.lst (nL d d')), .im (.int 11), .im (.int 0), .im (.lst [.bl true, .bl false, .bl false, .bl true, .bl false, .bl false]), .im (.ex "InvalidAngles" [("index", d)]), .un]) (by kernel_rfl)).trans ((seq_nx (ρ1 := [.im d, .im d', .im (.lst (eL d d')), .im (.lst (nL d d')), .im (.int 11), .im (.int 0), .im (.lst [.bl true, .bl false, .bl false, .bl true, .bl false, .bl false]), .im (.ex "InvalidAngles" [("index", d)]), .un]) (by kernel_rfl)).trans ((bind_ok (ds := [.ex "InvalidRow" [("index", d)], .ex "InvalidRow" [("index", d)]]) (ρ1 := [.im d, .im d', .im (.lst (eL d d')), .im (.lst (nL d d')), .im (.int 11), .im (.int 0), .im (.lst [.bl true, .bl false, .bl false, .bl true, .bl false, .bl false]), .im (.ex "InvalidAngles" [("index", d)]), .un]) (by kernel_rfl)).trans ?_))
      refine (loop_nx (ρ1 := [.im d, .im d', .im (.lst (eL d d')), .im (.lst (nL d d')), .im (.int 11), .im (.int 0), .im (.lst [.bl true, .bl false, .bl false, .bl true, .bl false, .bl false]), .im (.ex "InvalidRow" [("index", d)]), .un]) (ρ2 := [.im d, .im d', .im (.lst (eL d d')), .im (.lst (nL d d')), .im (.int 11), .im (.int 0), .im (.lst [.bl true, .bl false, .bl false, .bl true, .bl false, .bl false]), .im (.ex "InvalidRow" [("index", d)]), .un]) (by kernel_rfl) ((seq_nx (ρ1 := [.im d, .im d', .im (.lst (eL d d')), .im (.lst (nL d d')), .im (.int 11), .im (.int 0), .im (.lst [.bl true, .bl false, .bl false, .bl true, .bl false, .bl false]), .im (.ex "InvalidRow" [("index", d)]), .un]) (by kernel_rfl)).trans (if_no (ρ1 := [.im d, .im d', .im (.lst (eL d d')), .im (.lst (nL d d')), .im (.int 11), .im (.int 0), .im (.lst [.bl true, .bl false, .bl false, .bl true, .bl false, .bl false]), .im (.ex "InvalidRow" [("index", d)]), .un]) (two_same (ρ1 := [.im d, .im d', .im (.lst (eL d d')), .im (.lst (nL d d')), .im (.int 11), .im (.int 0), .im (.lst [.bl true, .bl false, .bl false, .bl true, .bl false, .bl false]), .im (.ex "InvalidRow" [("index", d)]), .un]) (repr_at (ρ1 := [.im d, .im d', .im (.lst (eL d d')), .im (.lst (nL d d')), .im (.int 11), .im (.int 0), .im (.lst [.bl true, .bl false, .bl false, .bl true, .bl false, .bl false]), .im (.ex "InvalidRow" [("index", d)]), .un]) h1 (by kernel_rfl)) (repr_at (ρ1 := [.im d, .im d', .im (.lst (eL d d')), .im (.lst (nL d d')), .im (.int 11), .im (.int 0), .im (.lst [.bl true, .bl false, .bl false, .bl true, .bl false, .bl false]), .im (.ex "InvalidRow" [("index", d)]), .un]) h1 (by kernel_rfl)))))).trans ((loop_nx (ρ1 := [.im d, .im d', .im (.lst (eL d d')), .im (.lst (nL d d')), .im (.int 11), .im (.int 0), .im (.lst [.bl true, .bl false, .bl false, .bl true, .bl false, .bl false]), .im (.ex "InvalidRow" [("index", d)]), .un]) (ρ2 := [.im d, .im d', .im (.lst (eL d d')), .im (.lst (nL d d')), .im (.int 11), .im (.int 0), .im (.lst [.bl true, .bl false, .bl false, .bl true, .bl false, .bl false]), .im (.ex "InvalidRow" [("index", d)]), .un]) (by kernel_rfl) ((seq_nx (ρ1 := [.im d, .im d', .im (.lst (eL d d')), .im (.lst (nL d d')), .im (.int 11), .im (.int 0), .im (.lst [.bl true, .bl false, .bl false, .bl true, .bl false, .bl false]), .im (.ex "InvalidRow" [("index", d)]), .un]) (by kernel_rfl)).trans (if_no (ρ1 := [.im d, .im d', .im (.lst (eL d d')), .im (.lst (nL d d')), .im (.int 11), .im (.int 0), .im (.lst [.bl true, .bl false, .bl false, .bl true, .bl false, .bl false]), .im (.ex "InvalidRow" [("index", d)]), .un]) (two_same (ρ1 := [.im d, .im d', .im (.lst (eL d d')), .im (.lst (nL d d')), .im (.int 11), .im (.int 0), .im (.lst [.bl true, .bl false, .bl false, .bl true, .bl false, .bl false]), .im (.ex "InvalidRow" [("index", d)]), .un]) (repr_at (ρ1 := [.im d, .im d', .im (.lst (eL d d')), .im (.lst (nL d d')), .im (.int 11), .im (.int 0), .im (.lst [.bl true, .bl false, .bl false, .bl true, .bl false, .bl false]), .im (.ex "InvalidRow" [("index", d)]), .un]) h1 (by kernel_rfl)) (repr_at (ρ1 := [.im d, .im d', .im (.lst (eL d d')), .im (.lst (nL d d')), .im (.int 11), .im (.int 0), .im (.lst [.bl true, .bl false, .bl false, .bl true, .bl false, .bl false]), .im (.ex "InvalidRow" [("index", d)]), .un]) h1 (by kernel_rfl)))))).trans ?_)
      kernel_rfl
    refine (loop_nx (ρ1 := [.im d, .im d', .im (.lst (eL d d')), .im (.lst (nL d d')), .im (.int 12), .im (.int 0), .im (.lst [.bl true, .bl false, .bl false, .bl true, .bl false, .bl false]), .im (.ex "InvalidRow" [("index", d)]), .un]) (ρ2 := [.im d, .im d', .im (.lst (eL d d')), .im (.lst (nL d d')), .im (.int 12), .im (.int 0), .im (.lst [.bl true, .bl false, .bl false, .bl true, .bl false, .bl false]), .im (.ex "InvalidRows" [("index", d)]), .un]) (by kernel_rfl) ?_).trans ?_
    · refine (seq_nx (ρ1 := [.im d, .im d', .im (.lst (eL d d')), .im (.lst (nL d d')), .im (.int 12), .im (.int 0), .im (.lst [.bl true, .bl false, .bl false, .bl true, .bl false, .bl false]), .im (.ex "InvalidRow" [("index", d)]), .un]) (by kernel_rfl)).trans ((seq_nx (ρ1 := [.im d, .im d', .im (.lst (eL d d')), .im (.lst (nL d d')), .im (.int 12), .im (.int 0), .im (.lst [.bl true, .bl false, .bl false, .bl true, .bl false, .bl false]), .im (.ex "InvalidRow" [("index", d)]), .un]) (by kernel_rfl)).trans ((bind_ok (ds := [.ex "InvalidRows" [("index", d)], .ex "InvalidRows" [("index", d)]]) (ρ1 := [.im d, .im d', .im (.lst (eL d d')), .im (.lst (nL d d')), .im (.int 12), .im (.int 0), .im (.lst [.bl true, .bl false, .bl false, .bl true, .bl false, .bl false]), .im (.ex "InvalidRow" [("index", d)]), .un]) (by kernel_rfl)).trans ?_))
      refine (loop_nx (ρ1 := [.im d, .im d', .im (.lst (eL d d')), .im (.lst (nL d d')), .im (.int 12), .im (.int 0), .im (.lst [.bl true, .bl false, .bl false, .bl true, .bl false, .bl false]), .im (.ex "InvalidRows" [("index", d)]), .un]) (ρ2 := [.im d, .im d', .im (.lst (eL d d')), .im (.lst (nL d d')), .im (.int 12), .im (.int 0), .im (.lst [.bl true, .bl false, .bl false, .bl true, .bl false, .bl false]), .im (.ex "InvalidRows" [("index", d)]), .un]) (by kernel_rfl) ((seq_nx (ρ1 := [.im d, .im d', .im (.lst (eL d d')), .im (.lst (nL d d')), .im (.int 12), .im (.int 0), .im (.lst [.bl true, .bl false, .bl false, .bl true, .bl false, .bl false]), .im (.ex "InvalidRows" [("index", d)]), .un]) (by kernel_rfl)).trans (if_no (ρ1 := [.im d, .im d', .im (.lst (eL d d')), .im (.lst (nL d d')), .im (.int 12), .im (.int 0), .im (.lst [.bl true, .bl false, .bl false, .bl true, .bl false, .bl false]), .im (.ex "InvalidRows" [("index", d)]), .un]) (two_same (ρ1 := [.im d, .im d', .im (.lst (eL d d')), .im (.lst (nL d d')), .im (.int 12), .im (.int 0), .im (.lst [.bl true, .bl false, .bl false, .bl true, .bl false, .bl false]), .im (.ex "InvalidRows" [("index", d)]), .un]) (repr_at (ρ1 := [.im d, .im d', .im (.lst (eL d d')), .im (.lst (nL d d')), .im (.int 12), .im (.int 0), .im (.lst [.bl true, .bl false, .bl false, .bl true, .bl false, .bl false]), .im (.ex "InvalidRows" [("index", d)]), .un]) h1 (by kernel_rfl)) (repr_at (ρ1 := [.im d, .im d', .im (.lst (eL d d')), .im (.lst (nL d d')), .im (.int 12), .im (.int 0), .im (.lst [.bl true, .bl false, .bl false, .bl true, .bl false, .bl false]), .im (.ex "InvalidRows" [("index", d)]), .un]) h1 (by kernel_rfl)))))).trans ((loop_nx (ρ1 := [.im d, .im d', .im (.lst (eL d d')), .im (.lst (nL d d')), .im (.int 12), .im (.int 0), .im (.lst [.bl true, .bl false, .bl false, .bl true, .bl false, .bl false]), .im (.ex "InvalidRows" [("index", d)]), .un]) (ρ2 := [.im d, .im d', .im (.lst (eL d d')), .im (.lst (nL d d')), .im (.int 12), .im (.int 0), .im (.lst [.bl true, .bl false, .bl false, .bl true, .bl false, .bl false]), .im (.ex "InvalidRows" [("index", d)]), .un]) (by kernel_rfl) ((seq_nx (ρ1 := [.im d, .im d', .im (.lst (eL d d')), .im (.lst (nL d d')), .im (.int 12), .im (.int 0), .im (.lst [.bl true, .bl false, .bl false, .bl true, .bl false, .bl false]), .im (.ex "InvalidRows" [("index", d)]), .un]) (by kernel_rfl)).trans (if_no (ρ1 := [.im d, .im d', .im (.lst (eL d d')), .im (.lst (nL d d')), .im (.int 12), .im (.int 0), .im (.lst [.bl true, .bl false, .bl false, .bl true, .bl false, .bl false]), .im (.ex "InvalidRows" [("index", d)]), .un]) (two_same (ρ1 := [.im d, .im d', .im (.lst (eL d d')), .im (.lst (nL d d')), .im (.int 12), .im (.int 0), .im (.lst [.bl true, .bl false, .bl false, .bl true, .bl false, .bl false]), .im (.ex "InvalidRows" [("index", d)]), .un]) (repr_at (ρ1 := [.im d, .im d', .im (.lst (eL d d')), .im (.lst (nL d d')), .im (.int 12), .im (.int 0), .im (.lst [.bl true, .bl false, .bl false, .bl true, .bl false, .bl false]), .im (.ex "InvalidRows" [("index", d)]), .un]) h1 (by kernel_rfl)) (repr_at (ρ1 := [.im d, .im d', .im (.lst (eL d d')), .im (.lst (nL d d')), .im (.int 12), .im (.int 0), .im (.lst [.bl true, .bl false, .bl false, .bl true, .bl false, .bl false]), .im (.ex "InvalidRows" [("index", d)]), .un]) h1 (by kernel_rfl)))))).trans ?_)
      kernel_rfl
    refine (loop_nx (ρ1 := [.im d, .im d', .im (.lst (eL d d')), .im (.lst (nL d d')), .im (.int 13), .im (.int 0), .im (.lst [.bl true, .bl false, .bl false, .bl true, .bl false, .bl false]), .im (.ex "InvalidRows" [("index", d)]), .un]) (ρ2 := [.im d, .im d', .im (.lst (eL d d')), .im (.lst (nL d d')), .im (.int 13), .im (.int 0), .im (.lst [.bl true, .bl false, .bl false, .bl true, .bl false, .bl false]), .im (.ex "InvalidUnknown" [("index", d)]), .un]) (by kernel_rfl) ?_).trans ?_
    · refine (seq_nx (ρ1 := [.im d, .im d', .im (.lst (eL d d')), .im (.lst (nL d d')), .im (.int 13), .im (.int 0), .im (.lst [.bl true, .bl false, .bl false, .bl true, .bl false, .bl false]), .im (.ex "InvalidRows" [("index", d)]), .un]) (by kernel_rfl)).trans ((seq_nx (ρ1 := [.im d, .im d', .im (.lst (eL d d')), .im (.lst (nL d d')), .im (.int 13), .im (.int 0), .im (.lst [.bl true, .bl false, .bl false, .bl true, .bl false, .bl false]), .im (.ex "InvalidRows" [("index", d)]), .un]) (by kernel_rfl)).trans ((bind_ok (ds := [.ex "InvalidUnknown" [("index", d)], .ex "InvalidUnknown" [("index", d)]]) (ρ1 := [.im d, .im d', .im (.lst (eL d d')), .im (.lst (nL d d')), .im (.int 13), .im (.int 0), .im (.lst [.bl true, .bl false, .bl false, .bl true, .bl false, .bl false]), .im (.ex "InvalidRows" [("index", d)]), .un]) (by kernel_rfl)).trans ?_))
      refine (loop_nx (ρ1 := [.im d, .im d', .im (.lst (eL d d')), .im (.lst (nL d d')), .im (.int 13), .im (.int 0), .im (.lst [.bl true, .bl false, .bl false, .bl true, .bl false, .bl false]), .im (.ex "InvalidUnknown" [("index", d)]), .un]) (ρ2 := [.im d, .im d', .im (.lst (eL d d')), .im (.lst (nL d d')), .im (.int 13), .im (.int 0), .im (.lst [.bl true, .bl false, .bl false, .bl true, .bl false, .bl false]), .im (.ex "InvalidUnknown" [("index", d)]), .un]) (by kernel_rfl) ((seq_nx (ρ1 := [.im d, .im d', .im (.lst (eL d d')), .im (.lst (nL d d')), .im (.int 13), .im (.int 0), .im (.lst [.bl true, .bl false, .bl false, .bl true, .bl false, .bl false]), .im (.ex "InvalidUnknown" [("index", d)]), .un]) (by kernel_rfl)).trans (if_no (ρ1 := [.im d, .im d', .im (.lst (eL d d')), .im (.lst (nL d d')), .im (.int 13), .im (.int 0), .im (.lst [.bl true, .bl false, .bl false, .bl true, .bl false, .bl false]), .im (.ex "InvalidUnknown" [("index", d)]), .un]) (two_same (ρ1 := [.im d, .im d', .im (.lst (eL d d')), .im (.lst (nL d d')), .im (.int 13), .im (.int 0), .im (.lst [.bl true, .bl false, .bl false, .bl true, .bl false, .bl false]), .im (.ex "InvalidUnknown" [("index", d)]), .un]) (repr_at (ρ1 := [.im d, .im d', .im (.lst (eL d d')), .im (.lst (nL d d')), .im (.int 13), .im (.int 0), .im (.lst [.bl true, .bl false, .bl false, .bl true, .bl false, .bl false]), .im (.ex "InvalidUnknown" [("index", d)]), .un]) h1 (by kernel_rfl)) (repr_at (ρ1 := [.im d, .im d', .im (.lst (eL d d')), .im (.lst (nL d d')), .im (.int 13), .im (.int 0), .im (.lst [.bl true, .bl false, .bl false, .bl true, .bl false, .bl false]), .im (.ex "InvalidUnknown" [("index", d)]), .un]) h1 (by kernel_rfl)))))).trans ((loop_nx (ρ1 := [.im d, .im d', .im (.lst (eL d d')), .im (.lst (nL d d')), .im (.int 13), .im (.int 0), .im (.lst [.bl true, .bl false, .bl false, .bl true, .bl false, .bl false]), .im (.ex "InvalidUnknown" [("index", d)]), .un]) (ρ2 := [.im d, .im d', .im (.lst (eL d d')), .im (.lst (nL d d')), .im (.int 13), .im (.int 0), .im (.lst [.bl true, .bl false, .bl false, .bl true, .bl false, .bl false]), .im (.ex "InvalidUnknown" [("index", d)]), .un]) (by kernel_rfl) ((seq_nx (ρ1 := [.im d, .im d', .im (.lst (eL d d')), .im (.lst (nL d d')), .im (.int 13), .im (.int 0), .im (.lst [.bl true, .bl false, .bl false, .bl true, .bl false, .bl false]), .im (.ex "InvalidUnknown" [("index", d)]), .un]) (by kernel_rfl)).trans (if_no (ρ1 := [.im d, .im d', .im (.lst (eL d d')), .im (.lst (nL d d')), .im (.int 13), .im (.int 0), .im (.lst [.bl true, .bl false, .bl false, .bl true, .bl false, .bl false]), .im (.ex "InvalidUnknown" [("index", d)]), .un]) (two_same (ρ1 := [.im d, .im d', .im (.lst (eL d d')), .im (.lst (nL d d')), .im (.int 13), .im (.int 0), .im (.lst [.bl true, .bl false, .bl false, .bl true, .bl false, .bl false]), .im (.ex "InvalidUnknown" [("index", d)]), .un]) (repr_at (ρ1 := [.im d, .im d', .im (.lst (eL d d')), .im (.lst (nL d d')), .im (.int 13), .im (.int 0), .im (.lst [.bl true, .bl false, .bl false, .bl true, .bl false, .bl false]), .im (.ex "InvalidUnknown" [("index", d)]), .un]) h1 (by kernel_rfl)) (repr_at (ρ1 := [.im d, .im d', .im (.lst (eL d d')), .im (.lst (nL d d')), .im (.int 13), .im (.int 0), .im (.lst [.bl true, .bl false, .bl false, .bl true, .bl false, .bl false]), .im (.ex "InvalidUnknown" [("index", d)]), .un]) h1 (by kernel_rfl)))))).trans ?_)
      kernel_rfl
    refine (loop_nx (ρ1 := [.im d, .im d', .im (.lst (eL d d')), .im (.lst (nL d d')), .im (.int 14), .im (.int 0), .im (.lst [.bl true, .bl false, .bl false, .bl true, .bl false, .bl false]), .im (.ex "InvalidUnknown" [("index", d)]), .un]) (ρ2 := [.im d, .im d', .im (.lst (eL d d')), .im (.lst (nL d d')), .im (.int 14), .im (.int 0), .im (.lst [.bl true, .bl false, .bl false, .bl true, .bl false, .bl false]), .im (.ex "InvalidTold" [("index", d)]), .un]) (by kernel_rfl) ?_).trans ?_
    · refine (seq_nx (ρ1 := [.im d, .im d', .im (.lst (eL d d')), .im (.lst (nL d d')), .im (.int 14), .im (.int 0), .im (.lst [.bl true, .bl false, .bl false, .bl true, .bl false, .bl false]), .im (.ex "InvalidUnknown" [("index", d)]), .un]) (by kernel_rfl)).trans ((seq_nx (ρ1 := [.im d, .im d', .im (.lst (eL d d')), .im (.lst (nL d d')), .im (.int 14), .im (.int 0), .im (.lst [.bl true, .bl false, .bl false, .bl true, .bl false, .bl false]), .im (.ex "InvalidUnknown" [("index", d)]), .un]) (by kernel_rfl)).trans ((bind_ok (ds := [.ex "InvalidTold" [("index", d)], .ex "InvalidTold" [("index", d)]]) (ρ1 := [.im d, .im d', .im (.lst (eL d d')), .im (.lst (nL d d')), .im (.int 14), .im (.int 0), .im (.lst [.bl true, .bl false, .bl false, .bl true, .bl false, .bl false]), .im (.ex "InvalidUnknown" [("index", d)]), .un]) (by kernel_rfl)).trans ?_))
      refine (loop_nx (ρ1 := [.im d, .im d', .im (.lst (eL d d')), .im (.lst (nL d d')), .im (.int 14), .im (.int 0), .im (.lst [.bl true, .bl false, .bl false, .bl true, .bl false, .bl false]), .im (.ex "InvalidTold" [("index", d)]), .un]) (ρ2 := [.im d, .im d', .im (.lst (eL d d')), .im (.lst (nL d d')), .im (.int 14), .im (.int 0), .im (.lst [.bl true, .bl false, .bl false, .bl true, .bl false, .bl false]), .im (.ex "InvalidTold" [("index", d)]), .un]) (by kernel_rfl) ((seq_nx (ρ1 := [.im d, .im d', .im (.lst (eL d d')), .im (.lst (nL d d')), .im (.int 14), .im (.int 0), .im (.lst [.bl true, .bl false, .bl false, .bl true, .bl false, .bl false]), .im (.ex "InvalidTold" [("index", d)]), .un]) (by kernel_rfl)).trans (if_no (ρ1 := [.im d, .im d', .im (.lst (eL d d')), .im (.lst (nL d d')), .im (.int 14), .im (.int 0), .im (.lst [.bl true, .bl false, .bl false, .bl true, .bl false, .bl false]), .im (.ex "InvalidTold" [("index", d)]), .un]) (two_same (ρ1 := [.im d, .im d', .im (.lst (eL d d')), .im (.lst (nL d d')), .im (.int 14), .im (.int 0), .im (.lst [.bl true, .bl false, .bl false, .bl true, .bl false, .bl false]), .im (.ex "InvalidTold" [("index", d)]), .un]) (repr_at (ρ1 := [.im d, .im d', .im (.lst (eL d d')), .im (.lst (nL d d')), .im (.int 14), .im (.int 0), .im (.lst [.bl true, .bl false, .bl false, .bl true, .bl false, .bl false]), .im (.ex "InvalidTold" [("index", d)]), .un]) h1 (by kernel_rfl)) (repr_at (ρ1 := [.im d, .im d', .im (.lst (eL d d')), .im (.lst (nL d d')), .im (.int 14), .im (.int 0), .im (.lst [.bl true, .bl false, .bl false, .bl true, .bl false, .bl false]), .im (.ex "InvalidTold" [("index", d)]), .un]) h1 (by kernel_rfl)))))).trans ((loop_nx (ρ1 := [.im d, .im d', .im (.lst (eL d d')), .im (.lst (nL d d')), .im (.int 14), .im (.int 0), .im (.lst [.bl true, .bl false, .bl false, .bl true, .bl false, .bl false]), .im (.ex "InvalidTold" [("index", d)]), .un]) (ρ2 := [.im d, .im d', .im (.lst (eL d d')), .im (.lst (nL d d')), .im (.int 14), .im (.int 0), .im (.lst [.bl true, .bl false, .bl false, .bl true, .bl false, .bl false]), .im (.ex "InvalidTold" [("index", d)]), .un]) (by kernel_rfl) ((seq_nx (ρ1 := [.im d, .im d', .im (.lst (eL d d')), .im (.lst (nL d d')), .im (.int 14), .im (.int 0), .im (.lst [.bl true, .bl false, .bl false, .bl true, .bl false, .bl false]), .im (.ex "InvalidTold" [("index", d)]), .un]) (by kernel_rfl)).trans (if_no (ρ1 := [.im d, .im d', .im (.lst (eL d d')), .im (.lst (nL d d')), .im (.int 14), .im (.int 0), .im (.lst [.bl true, .bl false, .bl false, .bl true, .bl false, .bl false]), .im (.ex "InvalidTold" [("index", d)]), .un]) (two_same (ρ1 := [.im d, .im d', .im (.lst (eL d d')), .im (.lst (nL d d')), .im (.int 14), .im (.int 0), .im (.lst [.bl true, .bl false, .bl false, .bl true, .bl false, .bl false]), .im (.ex "InvalidTold" [("index", d)]), .un]) (repr_at (ρ1 := [.im d, .im d', .im (.lst (eL d d')), .im (.lst (nL d d')), .im (.int 14), .im (.int 0), .im (.lst [.bl true, .bl false, .bl false, .bl true, .bl false, .bl false]), .im (.ex "InvalidTold" [("index", d)]), .un]) h1 (by kernel_rfl)) (repr_at (ρ1 := [.im d, .im d', .im (.lst (eL d d')), .im (.lst (nL d d')), .im (.int 14), .im (.int 0), .im (.lst [.bl true, .bl false, .bl false, .bl true, .bl false, .bl false]), .im (.ex "InvalidTold" [("index", d)]), .un]) h1 (by kernel_rfl)))))).trans ?_)
      kernel_rfl
    refine (loop_nx (ρ1 := [.im d, .im d', .im (.lst (eL d d')), .im (.lst (nL d d')), .im (.int 15), .im (.int 0), .im (.lst [.bl true, .bl false, .bl false, .bl true, .bl false, .bl false]), .im (.ex "InvalidTold" [("index", d)]), .un]) (ρ2 := [.im d, .im d', .im (.lst (eL d d')), .im (.lst (nL d d')), .im (.int 15), .im (.int 1), .im (.lst [.bl false, .bl true, .bl false, .bl false, .bl true, .bl false]), .im (.ex "UnknownName" [("given", d)]), .un]) (by kernel_rfl) ?_).trans ?_
    · refine (seq_nx (ρ1 := [.im d, .im d', .im (.lst (eL d d')), .im (.lst (nL d d')), .im (.int 15), .im (.int 1), .im (.lst [.bl true, .bl false, .bl false, .bl true, .bl false, .bl false]), .im (.ex "InvalidTold" [("index", d)]), .un]) (by kernel_rfl)).trans ((seq_nx (ρ1 := [.im d, .im d', .im (.lst (eL d d')), .im (.lst (nL d d')), .im (.int 15), .im (.int 1), .im (.lst [.bl false, .bl true, .bl false, .bl false, .bl true, .bl false]), .im (.ex "InvalidTold" [("index", d)]), .un]) (by kernel_rfl)).trans ((bind_ok (ds := [.ex "UnknownName" [("given", d)], .ex "UnknownName" [("given", d)]]) (ρ1 := [.im d, .im d', .im (.lst (eL d d')), .im (.lst (nL d d')), .im (.int 15), .im (.int 1), .im (.lst [.bl false, .bl true, .bl false, .bl false, .bl true, .bl false]), .im (.ex "InvalidTold" [("index", d)]), .un]) (by kernel_rfl)).trans ?_))
      refine (loop_nx (ρ1 := [.im d, .im d', .im (.lst (eL d d')), .im (.lst (nL d d')), .im (.int 15), .im (.int 1), .im (.lst [.bl false, .bl true, .bl false, .bl false, .bl true, .bl false]), .im (.ex "UnknownName" [("given", d)]), .un]) (ρ2 := [.im d, .im d', .im (.lst (eL d d')), .im (.lst (nL d d')), .im (.int 15), .im (.int 1), .im (.lst [.bl false, .bl true, .bl false, .bl false, .bl true, .bl false]), .im (.ex "UnknownName" [("given", d)]), .un]) (by kernel_rfl) ((seq_nx (ρ1 := [.im d, .im d', .im (.lst (eL d d')), .im (.lst (nL d d')), .im (.int 15), .im (.int 1), .im (.lst [.bl false, .bl true, .bl false, .bl false, .bl true, .bl false]), .im (.ex "UnknownName" [("given", d)]), .un]) (by kernel_rfl)).trans (if_no (ρ1 := [.im d, .im d', .im (.lst (eL d d')), .im (.lst (nL d d')), .im (.int 15), .im (.int 1), .im (.lst [.bl false, .bl true, .bl false, .bl false, .bl true, .bl false]), .im (.ex "UnknownName" [("given", d)]), .un]) (two_same (ρ1 := [.im d, .im d', .im (.lst (eL d d')), .im (.lst (nL d d')), .im (.int 15), .im (.int 1), .im (.lst [.bl false, .bl true, .bl false, .bl false, .bl true, .bl false]), .im (.ex "UnknownName" [("given", d)]), .un]) (repr_at (ρ1 := [.im d, .im d', .im (.lst (eL d d')), .im (.lst (nL d d')), .im (.int 15), .im (.int 1), .im (.lst [.bl false, .bl true, .bl false, .bl false, .bl true, .bl false]), .im (.ex "UnknownName" [("given", d)]), .un]) h1 (by kernel_rfl)) (repr_at (ρ1 := [.im d, .im d', .im (.lst (eL d d')), .im (.lst (nL d d')), .im (.int 15), .im (.int 1), .im (.lst [.bl false, .bl true, .bl false, .bl false, .bl true, .bl false]), .im (.ex "UnknownName" [("given", d)]), .un]) h1 (by kernel_rfl)))))).trans ((loop_nx (ρ1 := [.im d, .im d', .im (.lst (eL d d')), .im (.lst (nL d d')), .im (.int 15), .im (.int 1), .im (.lst [.bl false, .bl true, .bl false, .bl false, .bl true, .bl false]), .im (.ex "UnknownName" [("given", d)]), .un]) (ρ2 := [.im d, .im d', .im (.lst (eL d d')), .im (.lst (nL d d')), .im (.int 15), .im (.int 1), .im (.lst [.bl false, .bl true, .bl false, .bl false, .bl true, .bl false]), .im (.ex "UnknownName" [("given", d)]), .un]) (by kernel_rfl) ((seq_nx (ρ1 := [.im d, .im d', .im (.lst (eL d d')), .im (.lst (nL d d')), .im (.int 15), .im (.int 1), .im (.lst [.bl false, .bl true, .bl false, .bl false, .bl true, .bl false]), .im (.ex "UnknownName" [("given", d)]), .un]) (by kernel_rfl)).trans (if_no (ρ1 := [.im d, .im d', .im (.lst (eL d d')), .im (.lst (nL d d')), .im (.int 15), .im (.int 1), .im (.lst [.bl false, .bl true, .bl false, .bl false, .bl true, .bl false]), .im (.ex "UnknownName" [("given", d)]), .un]) (two_same (ρ1 := [.im d, .im d', .im (.lst (eL d d')), .im (.lst (nL d d')), .im (.int 15), .im (.int 1), .im (.lst [.bl false, .bl true, .bl false, .bl false, .bl true, .bl false]), .im (.ex "UnknownName" [("given", d)]), .un]) (repr_at (ρ1 := [.im d, .im d', .im (.lst (eL d d')), .im (.lst (nL d d')), .im (.int 15), .im (.int 1), .im (.lst [.bl false, .bl true, .bl false, .bl false, .bl true, .bl false]), .im (.ex "UnknownName" [("given", d)]), .un]) h1 (by kernel_rfl)) (repr_at (ρ1 := [.im d, .im d', .im (.lst (eL d d')), .im (.lst (nL d d')), .im (.int 15), .im (.int 1), .im (.lst [.bl false, .bl true, .bl false, .bl false, .bl true, .bl false]), .im (.ex "UnknownName" [("given", d)]), .un]) h1 (by kernel_rfl)))))).trans ?_)
      kernel_rfl
    refine (loop_nx (ρ1 := [.im d, .im d', .im (.lst (eL d d')), .im (.lst (nL d d')), .im (.int 16), .im (.int 1), .im (.lst [.bl false, .bl true, .bl false, .bl false, .bl true, .bl false]), .im (.ex "UnknownName" [("given", d)]), .un]) (ρ2 := [.im d, .im d', .im (.lst (eL d d')), .im (.lst (nL d d')), .im (.int 16), .im (.int 1), .im (.lst [.bl false, .bl true, .bl false, .bl false, .bl true, .bl false]), .im (.ex "InUse" [("index", d)]), .un]) (by kernel_rfl) ?_).trans ?_
    · refine (seq_nx (ρ1 := [.im d, .im d', .im (.lst (eL d d')), .im (.lst (nL d d')), .im (.int 16), .im (.int 1), .im (.lst [.bl false, .bl true, .bl false, .bl false, .bl true, .bl false]), .im (.ex "UnknownName" [("given", d)]), .un]) (by kernel_rfl)).trans ((seq_nx (ρ1 := [.im d, .im d', .im (.lst (eL d d')), .im (.lst (nL d d')), .im (.int 16), .im (.int 1), .im (.lst [.bl false, .bl true, .bl false, .bl false, .bl true, .bl false]), .im (.ex "UnknownName" [("given", d)]), .un]) (by kernel_rfl)).trans ((bind_ok (ds := [.ex "InUse" [("index", d)], .ex "InUse" [("index", d)]]) (ρ1 := [.im d, .im d', .im (.lst (eL d d')), .im (.lst (nL d d')), .im (.int 16), .im (.int 1), .im (.lst [.bl false, .bl true, .bl false, .bl false, .bl true, .bl false]), .im (.ex "UnknownName" [("given", d)]), .un]) (by kernel_rfl)).trans ?_))
      refine (loop_nx (ρ1 := [.im d, .im d', .im (.lst (eL d d')), .im (.lst (nL d d')), .im (.int 16), .im (.int 1), .im (.lst [.bl false, .bl true, .bl false, .bl false, .bl true, .bl false]), .im (.ex "InUse" [("index", d)]), .un]) (ρ2 := [.im d, .im d', .im (.lst (eL d d')), .im (.lst (nL d d')), .im (.int 16), .im (.int 1), .im (.lst [.bl false, .bl true, .bl false, .bl false, .bl true, .bl false]), .im (.ex "InUse" [("index", d)]), .un]) (by kernel_rfl) ((seq_nx (ρ1 := [.im d, .im d', .im (.lst (eL d d')), .im (.lst (nL d d')), .im (.int 16), .im (.int 1), .im (.lst [.bl false, .bl true, .bl false, .bl false, .bl true, .bl false]), .im (.ex "InUse" [("index", d)]), .un]) (by kernel_rfl)).trans (if_no (ρ1 := [.im d, .im d', .im (.lst (eL d d')), .im (.lst (nL d d')), .im (.int 16), .im (.int 1), .im (.lst [.bl false, .bl true, .bl false, .bl false, .bl true, .bl false]), .im (.ex "InUse" [("index", d)]), .un]) (two_same (ρ1 := [.im d, .im d', .im (.lst (eL d d')), .im (.lst (nL d d')), .im (.int 16), .im (.int 1), .im (.lst [.bl false, .bl true, .bl false, .bl false, .bl true, .bl false]), .im (.ex "InUse" [("index", d)]), .un]) (repr_at (ρ1 := [.im d, .im d', .im (.lst (eL d d')), .im (.lst (nL d d')), .im (.int 16), .im (.int 1), .im (.lst [.bl false, .bl true, .bl false, .bl false, .bl true, .bl false]), .im (.ex "InUse" [("index", d)]), .un]) h1 (by kernel_rfl)) (repr_at (ρ1 := [.im d, .im d', .im (.lst (eL d d')), .im (.lst (nL d d')), .im (.int 16), .im (.int 1), .im (.lst [.bl false, .bl true, .bl false, .bl false, .bl true, .bl false]), .im (.ex "InUse" [("index", d)]), .un]) h1 (by kernel_rfl)))))).trans ((loop_nx (ρ1 := [.im d, .im d', .im (.lst (eL d d')), .im (.lst (nL d d')), .im (.int 16), .im (.int 1), .im (.lst [.bl false, .bl true, .bl false, .bl false, .bl true, .bl false]), .im (.ex "InUse" [("index", d)]), .un]) (ρ2 := [.im d, .im d', .im (.lst (eL d d')), .im (.lst (nL d d')), .im (.int 16), .im (.int 1), .im (.lst [.bl false, .bl true, .bl false, .bl false, .bl true, .bl false]), .im (.ex "InUse" [("index", d)]), .un]) (by kernel_rfl) ((seq_nx (ρ1 := [.im d, .im d', .im (.lst (eL d d')), .im (.lst (nL d d')), .im (.int 16), .im (.int 1), .im (.lst [.bl false, .bl true, .bl false, .bl false, .bl true, .bl false]), .im (.ex "InUse" [("index", d)]), .un]) (by kernel_rfl)).trans (if_no (ρ1 := [.im d, .im d', .im (.lst (eL d d')), .im (.lst (nL d d')), .im (.int 16), .im (.int 1), .im (.lst [.bl false, .bl true, .bl false, .bl false, .bl true, .bl false]), .im (.ex "InUse" [("index", d)]), .un]) (two_same (ρ1 := [.im d, .im d', .im (.lst (eL d d')), .im (.lst (nL d d')), .im (.int 16), .im (.int 1), .im (.lst [.bl false, .bl true, .bl false, .bl false, .bl true, .bl false]), .im (.ex "InUse" [("index", d)]), .un]) (repr_at (ρ1 := [.im d, .im d', .im (.lst (eL d d')), .im (.lst (nL d d')), .im (.int 16), .im (.int 1), .im (.lst [.bl false, .bl true, .bl false, .bl false, .bl true, .bl false]), .im (.ex "InUse" [("index", d)]), .un]) h1 (by kernel_rfl)) (repr_at (ρ1 := [.im d, .im d', .im (.lst (eL d d')), .im (.lst (nL d d')), .im (.int 16), .im (.int 1), .im (.lst [.bl false, .bl true, .bl false, .bl false, .bl true, .bl false]), .im (.ex "InUse" [("index", d)]), .un]) h1 (by kernel_rfl)))))).trans ?_)
      kernel_rfl
    refine (loop_nx (ρ1 := [.im d, .im d', .im (.lst (eL d d')), .im (.lst (nL d d')), .im (.int 17), .im (.int 1), .im (.lst [.bl false, .bl true, .bl false, .bl false, .bl true, .bl false]), .im (.ex "InUse" [("index", d)]), .un]) (ρ2 := [.im d, .im d', .im (.lst (eL d d')), .im (.lst (nL d d')), .im (.int 17), .im (.int 1), .im (.lst [.bl false, .bl true, .bl false, .bl false, .bl true, .bl false]), .im (.ex "NothingToUndo" []), .un]) (by kernel_rfl) ?_).trans ?_
    · refine (seq_nx (ρ1 := [.im d, .im d', .im (.lst (eL d d')), .im (.lst (nL d d')), .im (.int 17), .im (.int 1), .im (.lst [.bl false, .bl true, .bl false, .bl false, .bl true, .bl false]), .im (.ex "InUse" [("index", d)]), .un]) (by kernel_rfl)).trans ((seq_nx (ρ1 := [.im d, .im d', .im (.lst (eL d d')), .im (.lst (nL d d')), .im (.int 17), .im (.int 1), .im (.lst [.bl false, .bl true, .bl false, .bl false, .bl true, .bl false]), .im (.ex "InUse" [("index", d)]), .un]) (by kernel_rfl)).trans ((bind_ok (ds := [.ex "NothingToUndo" [], .ex "NothingToUndo" []]) (ρ1 := [.im d, .im d', .im (.lst (eL d d')), .im (.lst (nL d d')), .im (.int 17), .im (.int 1), .im (.lst [.bl false, .bl true, .bl false, .bl false, .bl true, .bl false]), .im (.ex "InUse" [("index", d)]), .un]) (by kernel_rfl)).trans ?_))
      refine (loop_nx (ρ1 := [.im d, .im d', .im (.lst (eL d d')), .im (.lst (nL d d')), .im (.int 17), .im (.int 1), .im (.lst [.bl false, .bl true, .bl false, .bl false, .bl true, .bl false]), .im (.ex "NothingToUndo" []), .un]) (ρ2 := [.im d, .im d', .im (.lst (eL d d')), .im (.lst (nL d d')), .im (.int 17), .im (.int 1), .im (.lst [.bl false, .bl true, .bl false, .bl false, .bl true, .bl false]), .im (.ex "NothingToUndo" []), .un]) (by kernel_rfl) ((seq_nx (ρ1 := [.im d, .im d', .im (.lst (eL d d')), .im (.lst (nL d d')), .im (.int 17), .im (.int 1), .im (.lst [.bl false, .bl true, .bl false, .bl false, .bl true, .bl false]), .im (.ex "NothingToUndo" []), .un]) (by kernel_rfl)).trans (if_no (ρ1 := [.im d, .im d', .im (.lst (eL d d')), .im (.lst (nL d d')), .im (.int 17), .im (.int 1), .im (.lst [.bl false, .bl true, .bl false, .bl false, .bl true, .bl false]), .im (.ex "NothingToUndo" []), .un]) (two_same (ρ1 := [.im d, .im d', .im (.lst (eL d d')), .im (.lst (nL d d')), .im (.int 17), .im (.int 1), .im (.lst [.bl false, .bl true, .bl false, .bl false, .bl true, .bl false]), .im (.ex "NothingToUndo" []), .un]) (repr_at (ρ1 := [.im d, .im d', .im (.lst (eL d d')), .im (.lst (nL d d')), .im (.int 17), .im (.int 1), .im (.lst [.bl false, .bl true, .bl false, .bl false, .bl true, .bl false]), .im (.ex "NothingToUndo" []), .un]) noth (by kernel_rfl)) (repr_at (ρ1 := [.im d, .im d', .im (.lst (eL d d')), .im (.lst (nL d d')), .im (.int 17), .im (.int 1), .im (.lst [.bl false, .bl true, .bl false, .bl false, .bl true, .bl false]), .im (.ex "NothingToUndo" []), .un]) noth (by kernel_rfl)))))).trans ((loop_nx (ρ1 := [.im d, .im d', .im (.lst (eL d d')), .im (.lst (nL d d')), .im (.int 17), .im (.int 1), .im (.lst [.bl false, .bl true, .bl false, .bl false, .bl true, .bl false]), .im (.ex "NothingToUndo" []), .un]) (ρ2 := [.im d, .im d', .im (.lst (eL d d')), .im (.lst (nL d d')), .im (.int 17), .im (.int 1), .im (.lst [.bl false, .bl true, .bl false, .bl false, .bl true, .bl false]), .im (.ex "NothingToUndo" []), .un]) (by kernel_rfl) ((seq_nx (ρ1 := [.im d, .im d', .im (.lst (eL d d')), .im (.lst (nL d d')), .im (.int 17), .im (.int 1), .im (.lst [.bl false, .bl true, .bl false, .bl false, .bl true, .bl false]), .im (.ex "NothingToUndo" []), .un]) (by kernel_rfl)).trans (if_no (ρ1 := [.im d, .im d', .im (.lst (eL d d')), .im (.lst (nL d d')), .im (.int 17), .im (.int 1), .im (.lst [.bl false, .bl true, .bl false, .bl false, .bl true, .bl false]), .im (.ex "NothingToUndo" []), .un]) (two_same (ρ1 := [.im d, .im d', .im (.lst (eL d d')), .im (.lst (nL d d')), .im (.int 17), .im (.int 1), .im (.lst [.bl false, .bl true, .bl false, .bl false, .bl true, .bl false]), .im (.ex "NothingToUndo" []), .un]) (repr_at (ρ1 := [.im d, .im d', .im (.lst (eL d d')), .im (.lst (nL d d')), .im (.int 17), .im (.int 1), .im (.lst [.bl false, .bl true, .bl false, .bl false, .bl true, .bl false]), .im (.ex "NothingToUndo" []), .un]) noth (by kernel_rfl)) (repr_at (ρ1 := [.im d, .im d', .im (.lst (eL d d')), .im (.lst (nL d d')), .im (.int 17), .im (.int 1), .im (.lst [.bl false, .bl true, .bl false, .bl false, .bl true, .bl false]), .im (.ex "NothingToUndo" []), .un]) noth (by kernel_rfl)))))).trans ?_)
      kernel_rfl
    refine (loop_nx (ρ1 := [.im d, .im d', .im (.lst (eL d d')), .im (.lst (nL d d')), .im (.int 18), .im (.int 1), .im (.lst [.bl false, .bl true, .bl false, .bl false, .bl true, .bl false]), .im (.ex "NothingToUndo" []), .un]) (ρ2 := [.im d, .im d', .im (.lst (eL d d')), .im (.lst (nL d d')), .im (.int 18), .im (.int 2), .im (.lst [.bl false, .bl false, .bl true, .bl false, .bl false, .bl true]), .im (.ex "NotAlike" [("letter", d)]), .un]) (by kernel_rfl) ?_).trans ?_
    · refine (seq_nx (ρ1 := [.im d, .im d', .im (.lst (eL d d')), .im (.lst (nL d d')), .im (.int 18), .im (.int 2), .im (.lst [.bl false, .bl true, .bl false, .bl false, .bl true, .bl false]), .im (.ex "NothingToUndo" []), .un]) (by kernel_rfl)).trans ((seq_nx (ρ1 := [.im d, .im d', .im (.lst (eL d d')), .im (.lst (nL d d')), .im (.int 18), .im (.int 2), .im (.lst [.bl false, .bl false, .bl true, .bl false, .bl false, .bl true]), .im (.ex "NothingToUndo" []), .un]) (by kernel_rfl)).trans ((bind_ok (ds := [.ex "NotAlike" [("letter", d)], .ex "NotAlike" [("letter", d)]]) (ρ1 := [.im d, .im d', .im (.lst (eL d d')), .im (.lst (nL d d')), .im (.int 18), .im (.int 2), .im (.lst [.bl false, .bl false, .bl true, .bl false, .bl false, .bl true]), .im (.ex "NothingToUndo" []), .un]) (by kernel_rfl)).trans ?_))
      refine (loop_nx (ρ1 := [.im d, .im d', .im (.lst (eL d d')), .im (.lst (nL d d')), .im (.int 18), .im (.int 2), .im (.lst [.bl false, .bl false, .bl true, .bl false, .bl false, .bl true]), .im (.ex "NotAlike" [("letter", d)]), .un]) (ρ2 := [.im d, .im d', .im (.lst (eL d d')), .im (.lst (nL d d')), .im (.int 18), .im (.int 2), .im (.lst [.bl false, .bl false, .bl true, .bl false, .bl false, .bl true]), .im (.ex "NotAlike" [("letter", d)]), .un]) (by kernel_rfl) ((seq_nx (ρ1 := [.im d, .im d', .im (.lst (eL d d')), .im (.lst (nL d d')), .im (.int 18), .im (.int 2), .im (.lst [.bl false, .bl false, .bl true, .bl false, .bl false, .bl true]), .im (.ex "NotAlike" [("letter", d)]), .un]) (by kernel_rfl)).trans (if_no (ρ1 := [.im d, .im d', .im (.lst (eL d d')), .im (.lst (nL d d')), .im (.int 18), .im (.int 2), .im (.lst [.bl false, .bl false, .bl true, .bl false, .bl false, .bl true]), .im (.ex "NotAlike" [("letter", d)]), .un]) (two_same (ρ1 := [.im d, .im d', .im (.lst (eL d d')), .im (.lst (nL d d')), .im (.int 18), .im (.int 2), .im (.lst [.bl false, .bl false, .bl true, .bl false, .bl false, .bl true]), .im (.ex "NotAlike" [("letter", d)]), .un]) (repr_at (ρ1 := [.im d, .im d', .im (.lst (eL d d')), .im (.lst (nL d d')), .im (.int 18), .im (.int 2), .im (.lst [.bl false, .bl false, .bl true, .bl false, .bl false, .bl true]), .im (.ex "NotAlike" [("letter", d)]), .un]) h1 (by kernel_rfl)) (repr_at (ρ1 := [.im d, .im d', .im (.lst (eL d d')), .im (.lst (nL d d')), .im (.int 18), .im (.int 2), .im (.lst [.bl false, .bl false, .bl true, .bl false, .bl false, .bl true]), .im (.ex "NotAlike" [("letter", d)]), .un]) h1 (by kernel_rfl)))))).trans ((loop_nx (ρ1 := [.im d, .im d', .im (.lst (eL d d')), .im (.lst (nL d d')), .im (.int 18), .im (.int 2), .im (.lst [.bl false, .bl false, .bl true, .bl false, .bl false, .bl true]), .im (.ex "NotAlike" [("letter", d)]), .un]) (ρ2 := [.im d, .im d', .im (.lst (eL d d')), .im (.lst (nL d d')), .im (.int 18), .im (.int 2), .im (.lst [.bl false, .bl false, .bl true, .bl false, .bl false, .bl true]), .im (.ex "NotAlike" [("letter", d)]), .un]) (by kernel_rfl) ((seq_nx (ρ1 := [.im d, .im d', .im (.lst (eL d d')), .im (.lst (nL d d')), .im (.int 18), .im (.int 2), .im (.lst [.bl false, .bl false, .bl true, .bl false, .bl false, .bl true]), .im (.ex "NotAlike" [("letter", d)]), .un]) (by kernel_rfl)).trans (if_no (ρ1 := [.im d, .im d', .im (.lst (eL d d')), .im (.lst (nL d d')), .im (.int 18), .im (.int 2), .im (.lst [.bl false, .bl false, .bl true, .bl false, .bl false, .bl true]), .im (.ex "NotAlike" [("letter", d)]), .un]) (two_same (ρ1 := [.im d, .im d', .im (.lst (eL d d')), .im (.lst (nL d d')), .im (.int 18), .im (.int 2), .im (.lst [.bl false, .bl false, .bl true, .bl false, .bl false, .bl true]), .im (.ex "NotAlike" [("letter", d)]), .un]) (repr_at (ρ1 := [.im d, .im d', .im (.lst (eL d d')), .im (.lst (nL d d')), .im (.int 18), .im (.int 2), .im (.lst [.bl false, .bl false, .bl true, .bl false, .bl false, .bl true]), .im (.ex "NotAlike" [("letter", d)]), .un]) h1 (by kernel_rfl)) (repr_at (ρ1 := [.im d, .im d', .im (.lst (eL d d')), .im (.lst (nL d d')), .im (.int 18), .im (.int 2), .im (.lst [.bl false, .bl false, .bl true, .bl false, .bl false, .bl true]), .im (.ex "NotAlike" [("letter", d)]), .un]) h1 (by kernel_rfl)))))).trans ?_)
      kernel_rfl
    refine (loop_nx (ρ1 := [.im d, .im d', .im (.lst (eL d d')), .im (.lst (nL d d')), .im (.int 19), .im (.int 2), .im (.lst [.bl false, .bl false, .bl true, .bl false, .bl false, .bl true]), .im (.ex "NotAlike" [("letter", d)]), .un]) (ρ2 := [.im d, .im d', .im (.lst (eL d d')), .im (.lst (nL d d')), .im (.int 19), .im (.int 2), .im (.lst [.bl false, .bl false, .bl true, .bl false, .bl false, .bl true]), .im (.ex "NotShortest" [("indexes", d)]), .un]) (by kernel_rfl) ?_).trans ?_
    · refine (seq_nx (ρ1 := [.im d, .im d', .im (.lst (eL d d')), .im (.lst (nL d d')), .im (.int 19), .im (.int 2), .im (.lst [.bl false, .bl false, .bl true, .bl false, .bl false, .bl true]), .im (.ex "NotAlike" [("letter", d)]), .un]) (by kernel_rfl)).trans ((seq_nx (ρ1 := [.im d, .im d', .im (.lst (eL d d')), .im (.lst (nL d d')), .im (.int 19), .im (.int 2), .im (.lst [.bl false, .bl false, .bl true, .bl false, .bl false, .bl true]), .im (.ex "NotAlike" [("letter", d)]), .un]) (by kernel_rfl)).trans ((bind_ok (ds := [.ex "NotShortest" [("indexes", d)], .ex "NotShortest" [("indexes", d)]]) (ρ1 := [.im d, .im d', .im (.lst (eL d d')), .im (.lst (nL d d')), .im (.int 19), .im (.int 2), .im (.lst [.bl false, .bl false, .bl true, .bl false, .bl false, .bl true]), .im (.ex "NotAlike" [("letter", d)]), .un]) (by kernel_rfl)).trans ?_))
      refine (loop_nx (ρ1 := [.im d, .im d', .im (.lst (eL d d')), .im (.lst (nL d d')), .im (.int 19), .im (.int 2), .im (.lst [.bl false, .bl false, .bl true, .bl false, .bl false, .bl true]), .im (.ex "NotShortest" [("indexes", d)]), .un]) (ρ2 := [.im d, .im d', .im (.lst (eL d d')), .im (.lst (nL d d')), .im (.int 19), .im (.int 2), .im (.lst [.bl false, .bl false, .bl true, .bl false, .bl false, .bl true]), .im (.ex "NotShortest" [("indexes", d)]), .un]) (by kernel_rfl) ((seq_nx (ρ1 := [.im d, .im d', .im (.lst (eL d d')), .im (.lst (nL d d')), .im (.int 19), .im (.int 2), .im (.lst [.bl false, .bl false, .bl true, .bl false, .bl false, .bl true]), .im (.ex "NotShortest" [("indexes", d)]), .un]) (by kernel_rfl)).trans (if_no (ρ1 := [.im d, .im d', .im (.lst (eL d d')), .im (.lst (nL d d')), .im (.int 19), .im (.int 2), .im (.lst [.bl false, .bl false, .bl true, .bl false, .bl false, .bl true]), .im (.ex "NotShortest" [("indexes", d)]), .un]) (two_same (ρ1 := [.im d, .im d', .im (.lst (eL d d')), .im (.lst (nL d d')), .im (.int 19), .im (.int 2), .im (.lst [.bl false, .bl false, .bl true, .bl false, .bl false, .bl true]), .im (.ex "NotShortest" [("indexes", d)]), .un]) (repr_at (ρ1 := [.im d, .im d', .im (.lst (eL d d')), .im (.lst (nL d d')), .im (.int 19), .im (.int 2), .im (.lst [.bl false, .bl false, .bl true, .bl false, .bl false, .bl true]), .im (.ex "NotShortest" [("indexes", d)]), .un]) h1 (by kernel_rfl)) (repr_at (ρ1 := [.im d, .im d', .im (.lst (eL d d')), .im (.lst (nL d d')), .im (.int 19), .im (.int 2), .im (.lst [.bl false, .bl false, .bl true, .bl false, .bl false, .bl true]), .im (.ex "NotShortest" [("indexes", d)]), .un]) h1 (by kernel_rfl)))))).trans ((loop_nx (ρ1 := [.im d, .im d', .im (.lst (eL d d')), .im (.lst (nL d d')), .im (.int 19), .im (.int 2), .im (.lst [.bl false, .bl false, .bl true, .bl false, .bl false, .bl true]), .im (.ex "NotShortest" [("indexes", d)]), .un]) (ρ2 := [.im d, .im d', .im (.lst (eL d d')), .im (.lst (nL d d')), .im (.int 19), .im (.int 2), .im (.lst [.bl false, .bl false, .bl true, .bl false, .bl false, .bl true]), .im (.ex "NotShortest" [("indexes", d)]), .un]) (by kernel_rfl) ((seq_nx (ρ1 := [.im d, .im d', .im (.lst (eL d d')), .im (.lst (nL d d')), .im (.int 19), .im (.int 2), .im (.lst [.bl false, .bl false, .bl true, .bl false, .bl false, .bl true]), .im (.ex "NotShortest" [("indexes", d)]), .un]) (by kernel_rfl)).trans (if_no (ρ1 := [.im d, .im d', .im (.lst (eL d d')), .im (.lst (nL d d')), .im (.int 19), .im (.int 2), .im (.lst [.bl false, .bl false, .bl true, .bl false, .bl false, .bl true]), .im (.ex "NotShortest" [("indexes", d)]), .un]) (two_same (ρ1 := [.im d, .im d', .im (.lst (eL d d')), .im (.lst (nL d d')), .im (.int 19), .im (.int 2), .im (.lst [.bl false, .bl false, .bl true, .bl false, .bl false, .bl true]), .im (.ex "NotShortest" [("indexes", d)]), .un]) (repr_at (ρ1 := [.im d, .im d', .im (.lst (eL d d')), .im (.lst (nL d d')), .im (.int 19), .im (.int 2), .im (.lst [.bl false, .bl false, .bl true, .bl false, .bl false, .bl true]), .im (.ex "NotShortest" [("indexes", d)]), .un]) h1 (by kernel_rfl)) (repr_at (ρ1 := [.im d, .im d', .im (.lst (eL d d')), .im (.lst (nL d d')), .im (.int 19), .im (.int 2), .im (.lst [.bl false, .bl false, .bl true, .bl false, .bl false, .bl true]), .im (.ex "NotShortest" [("indexes", d)]), .un]) h1 (by kernel_rfl)))))).trans ?_)
      kernel_rfl
    refine (loop_nx (ρ1 := [.im d, .im d', .im (.lst (eL d d')), .im (.lst (nL d d')), .im (.int 20), .im (.int 2), .im (.lst [.bl false, .bl false, .bl true, .bl false, .bl false, .bl true]), .im (.ex "NotShortest" [("indexes", d)]), .un]) (ρ2 := [.im d, .im d', .im (.lst (eL d d')), .im (.lst (nL d d')), .im (.int 20), .im (.int 2), .im (.lst [.bl false, .bl false, .bl true, .bl false, .bl false, .bl true]), .im (.ex "NoMove" []), .un]) (by kernel_rfl) ?_).trans ?_
    · refine (seq_nx (ρ1 := [.im d, .im d', .im (.lst (eL d d')), .im (.lst (nL d d')), .im (.int 20), .im (.int 2), .im (.lst [.bl false, .bl false, .bl true, .bl false, .bl false, .bl true]), .im (.ex "NotShortest" [("indexes", d)]), .un]) (by kernel_rfl)).trans ((seq_nx (ρ1 := [.im d, .im d', .im (.lst (eL d d')), .im (.lst (nL d d')), .im (.int 20), .im (.int 2), .im (.lst [.bl false, .bl false, .bl true, .bl false, .bl false, .bl true]), .im (.ex "NotShortest" [("indexes", d)]), .un]) (by kernel_rfl)).trans ((bind_ok (ds := [.ex "NoMove" [], .ex "NoMove" []]) (ρ1 := [.im d, .im d', .im (.lst (eL d d')), .im (.lst (nL d d')), .im (.int 20), .im (.int 2), .im (.lst [.bl false, .bl false, .bl true, .bl false, .bl false, .bl true]), .im (.ex "NotShortest" [("indexes", d)]), .un]) (by kernel_rfl)).trans ?_))
      refine (loop_nx (ρ1 := [.im d, .im d', .im (.lst (eL d d')), .im (.lst (nL d d')), .im (.int 20), .im (.int 2), .im (.lst [.bl false, .bl false, .bl true, .bl false, .bl false, .bl true]), .im (.ex "NoMove" []), .un]) (ρ2 := [.im d, .im d', .im (.lst (eL d d')), .im (.lst (nL d d')), .im (.int 20), .im (.int 2), .im (.lst [.bl false, .bl false, .bl true, .bl false, .bl false, .bl true]), .im (.ex "NoMove" []), .un]) (by kernel_rfl) ((seq_nx (ρ1 := [.im d, .im d', .im (.lst (eL d d')), .im (.lst (nL d d')), .im (.int 20), .im (.int 2), .im (.lst [.bl false, .bl false, .bl true, .bl false, .bl false, .bl true]), .im (.ex "NoMove" []), .un]) (by kernel_rfl)).trans (if_no (ρ1 := [.im d, .im d', .im (.lst (eL d d')), .im (.lst (nL d d')), .im (.int 20), .im (.int 2), .im (.lst [.bl false, .bl false, .bl true, .bl false, .bl false, .bl true]), .im (.ex "NoMove" []), .un]) (two_same (ρ1 := [.im d, .im d', .im (.lst (eL d d')), .im (.lst (nL d d')), .im (.int 20), .im (.int 2), .im (.lst [.bl false, .bl false, .bl true, .bl false, .bl false, .bl true]), .im (.ex "NoMove" []), .un]) (repr_at (ρ1 := [.im d, .im d', .im (.lst (eL d d')), .im (.lst (nL d d')), .im (.int 20), .im (.int 2), .im (.lst [.bl false, .bl false, .bl true, .bl false, .bl false, .bl true]), .im (.ex "NoMove" []), .un]) noth (by kernel_rfl)) (repr_at (ρ1 := [.im d, .im d', .im (.lst (eL d d')), .im (.lst (nL d d')), .im (.int 20), .im (.int 2), .im (.lst [.bl false, .bl false, .bl true, .bl false, .bl false, .bl true]), .im (.ex "NoMove" []), .un]) noth (by kernel_rfl)))))).trans ((loop_nx (ρ1 := [.im d, .im d', .im (.lst (eL d d')), .im (.lst (nL d d')), .im (.int 20), .im (.int 2), .im (.lst [.bl false, .bl false, .bl true, .bl false, .bl false, .bl true]), .im (.ex "NoMove" []), .un]) (ρ2 := [.im d, .im d', .im (.lst (eL d d')), .im (.lst (nL d d')), .im (.int 20), .im (.int 2), .im (.lst [.bl false, .bl false, .bl true, .bl false, .bl false, .bl true]), .im (.ex "NoMove" []), .un]) (by kernel_rfl) ((seq_nx (ρ1 := [.im d, .im d', .im (.lst (eL d d')), .im (.lst (nL d d')), .im (.int 20), .im (.int 2), .im (.lst [.bl false, .bl false, .bl true, .bl false, .bl false, .bl true]), .im (.ex "NoMove" []), .un]) (by kernel_rfl)).trans (if_no (ρ1 := [.im d, .im d', .im (.lst (eL d d')), .im (.lst (nL d d')), .im (.int 20), .im (.int 2), .im (.lst [.bl false, .bl false, .bl true, .bl false, .bl false, .bl true]), .im (.ex "NoMove" []), .un]) (two_same (ρ1 := [.im d, .im d', .im (.lst (eL d d')), .im (.lst (nL d d')), .im (.int 20), .im (.int 2), .im (.lst [.bl false, .bl false, .bl true, .bl false, .bl false, .bl true]), .im (.ex "NoMove" []), .un]) (repr_at (ρ1 := [.im d, .im d', .im (.lst (eL d d')), .im (.lst (nL d d')), .im (.int 20), .im (.int 2), .im (.lst [.bl false, .bl false, .bl true, .bl false, .bl false, .bl true]), .im (.ex "NoMove" []), .un]) noth (by kernel_rfl)) (repr_at (ρ1 := [.im d, .im d', .im (.lst (eL d d')), .im (.lst (nL d d')), .im (.int 20), .im (.int 2), .im (.lst [.bl false, .bl false, .bl true, .bl false, .bl false, .bl true]), .im (.ex "NoMove" []), .un]) noth (by kernel_rfl)))))).trans ?_)
      kernel_rfl
    refine (loop_nx (ρ1 := [.im d, .im d', .im (.lst (eL d d')), .im (.lst (nL d d')), .im (.int 21), .im (.int 2), .im (.lst [.bl false, .bl false, .bl true, .bl false, .bl false, .bl true]), .im (.ex "NoMove" []), .un]) (ρ2 := [.im d, .im d', .im (.lst (eL d d')), .im (.lst (nL d d')), .im (.int 21), .im (.int 2), .im (.lst [.bl false, .bl false, .bl true, .bl false, .bl false, .bl true]), .im (.ex "TooMany" [("most", d)]), .un]) (by kernel_rfl) ?_).trans ?_
    · refine (seq_nx (ρ1 := [.im d, .im d', .im (.lst (eL d d')), .im (.lst (nL d d')), .im (.int 21), .im (.int 2), .im (.lst [.bl false, .bl false, .bl true, .bl false, .bl false, .bl true]), .im (.ex "NoMove" []), .un]) (by kernel_rfl)).trans ((seq_nx (ρ1 := [.im d, .im d', .im (.lst (eL d d')), .im (.lst (nL d d')), .im (.int 21), .im (.int 2), .im (.lst [.bl false, .bl false, .bl true, .bl false, .bl false, .bl true]), .im (.ex "NoMove" []), .un]) (by kernel_rfl)).trans ((bind_ok (ds := [.ex "TooMany" [("most", d)], .ex "TooMany" [("most", d)]]) (ρ1 := [.im d, .im d', .im (.lst (eL d d')), .im (.lst (nL d d')), .im (.int 21), .im (.int 2), .im (.lst [.bl false, .bl false, .bl true, .bl false, .bl false, .bl true]), .im (.ex "NoMove" []), .un]) (by kernel_rfl)).trans ?_))
      refine (loop_nx (ρ1 := [.im d, .im d', .im (.lst (eL d d')), .im (.lst (nL d d')), .im (.int 21), .im (.int 2), .im (.lst [.bl false, .bl false, .bl true, .bl false, .bl false, .bl true]), .im (.ex "TooMany" [("most", d)]), .un]) (ρ2 := [.im d, .im d', .im (.lst (eL d d')), .im (.lst (nL d d')), .im (.int 21), .im (.int 2), .im (.lst [.bl false, .bl false, .bl true, .bl false, .bl false, .bl true]), .im (.ex "TooMany" [("most", d)]), .un]) (by kernel_rfl) ((seq_nx (ρ1 := [.im d, .im d', .im (.lst (eL d d')), .im (.lst (nL d d')), .im (.int 21), .im (.int 2), .im (.lst [.bl false, .bl false, .bl true, .bl false, .bl false, .bl true]), .im (.ex "TooMany" [("most", d)]), .un]) (by kernel_rfl)).trans (if_no (ρ1 := [.im d, .im d', .im (.lst (eL d d')), .im (.lst (nL d d')), .im (.int 21), .im (.int 2), .im (.lst [.bl false, .bl false, .bl true, .bl false, .bl false, .bl true]), .im (.ex "TooMany" [("most", d)]), .un]) (two_same (ρ1 := [.im d, .im d', .im (.lst (eL d d')), .im (.lst (nL d d')), .im (.int 21), .im (.int 2), .im (.lst [.bl false, .bl false, .bl true, .bl false, .bl false, .bl true]), .im (.ex "TooMany" [("most", d)]), .un]) (repr_at (ρ1 := [.im d, .im d', .im (.lst (eL d d')), .im (.lst (nL d d')), .im (.int 21), .im (.int 2), .im (.lst [.bl false, .bl false, .bl true, .bl false, .bl false, .bl true]), .im (.ex "TooMany" [("most", d)]), .un]) h1 (by kernel_rfl)) (repr_at (ρ1 := [.im d, .im d', .im (.lst (eL d d')), .im (.lst (nL d d')), .im (.int 21), .im (.int 2), .im (.lst [.bl false, .bl false, .bl true, .bl false, .bl false, .bl true]), .im (.ex "TooMany" [("most", d)]), .un]) h1 (by kernel_rfl)))))).trans ((loop_nx (ρ1 := [.im d, .im d', .im (.lst (eL d d')), .im (.lst (nL d d')), .im (.int 21), .im (.int 2), .im (.lst [.bl false, .bl false, .bl true, .bl false, .bl false, .bl true]), .im (.ex "TooMany" [("most", d)]), .un]) (ρ2 := [.im d, .im d', .im (.lst (eL d d')), .im (.lst (nL d d')), .im (.int 21), .im (.int 2), .im (.lst [.bl false, .bl false, .bl true, .bl false, .bl false, .bl true]), .im (.ex "TooMany" [("most", d)]), .un]) (by kernel_rfl) ((seq_nx (ρ1 := [.im d, .im d', .im (.lst (eL d d')), .im (.lst (nL d d')), .im (.int 21), .im (.int 2), .im (.lst [.bl false, .bl false, .bl true, .bl false, .bl false, .bl true]), .im (.ex "TooMany" [("most", d)]), .un]) (by kernel_rfl)).trans (if_no (ρ1 := [.im d, .im d', .im (.lst (eL d d')), .im (.lst (nL d d')), .im (.int 21), .im (.int 2), .im (.lst [.bl false, .bl false, .bl true, .bl false, .bl false, .bl true]), .im (.ex "TooMany" [("most", d)]), .un]) (two_same (ρ1 := [.im d, .im d', .im (.lst (eL d d')), .im (.lst (nL d d')), .im (.int 21), .im (.int 2), .im (.lst [.bl false, .bl false, .bl true, .bl false, .bl false, .bl true]), .im (.ex "TooMany" [("most", d)]), .un]) (repr_at (ρ1 := [.im d, .im d', .im (.lst (eL d d')), .im (.lst (nL d d')), .im (.int 21), .im (.int 2), .im (.lst [.bl false, .bl false, .bl true, .bl false, .bl false, .bl true]), .im (.ex "TooMany" [("most", d)]), .un]) h1 (by kernel_rfl)) (repr_at (ρ1 := [.im d, .im d', .im (.lst (eL d d')), .im (.lst (nL d d')), .im (.int 21), .im (.int 2), .im (.lst [.bl false, .bl false, .bl true, .bl false, .bl false, .bl true]), .im (.ex "TooMany" [("most", d)]), .un]) h1 (by kernel_rfl)))))).trans ?_)
      kernel_rfl
    refine (loop_nx (ρ1 := [.im d, .im d', .im (.lst (eL d d')), .im (.lst (nL d d')), .im (.int 22), .im (.int 2), .im (.lst [.bl false, .bl false, .bl true, .bl false, .bl false, .bl true]), .im (.ex "TooMany" [("most", d)]), .un]) (ρ2 := [.im d, .im d', .im (.lst (eL d d')), .im (.lst (nL d d')), .im (.int 22), .im (.int 2), .im (.lst [.bl false, .bl false, .bl true, .bl false, .bl false, .bl true]), .im (.ex "Broken" [("shown", d'), ("index", d)]), .un]) (by kernel_rfl) ?_).trans ?_
    · refine (seq_nx (ρ1 := [.im d, .im d', .im (.lst (eL d d')), .im (.lst (nL d d')), .im (.int 22), .im (.int 2), .im (.lst [.bl false, .bl false, .bl true, .bl false, .bl false, .bl true]), .im (.ex "TooMany" [("most", d)]), .un]) (by kernel_rfl)).trans ((seq_nx (ρ1 := [.im d, .im d', .im (.lst (eL d d')), .im (.lst (nL d d')), .im (.int 22), .im (.int 2), .im (.lst [.bl false, .bl false, .bl true, .bl false, .bl false, .bl true]), .im (.ex "TooMany" [("most", d)]), .un]) (by kernel_rfl)).trans ((bind_ok (ds := [.ex "Broken" [("shown", d'), ("index", d)], .ex "Broken" [("shown", d'), ("index", d)]]) (ρ1 := [.im d, .im d', .im (.lst (eL d d')), .im (.lst (nL d d')), .im (.int 22), .im (.int 2), .im (.lst [.bl false, .bl false, .bl true, .bl false, .bl false, .bl true]), .im (.ex "TooMany" [("most", d)]), .un]) (by kernel_rfl)).trans ?_))
      refine (loop_nx (ρ1 := [.im d, .im d', .im (.lst (eL d d')), .im (.lst (nL d d')), .im (.int 22), .im (.int 2), .im (.lst [.bl false, .bl false, .bl true, .bl false, .bl false, .bl true]), .im (.ex "Broken" [("shown", d'), ("index", d)]), .un]) (ρ2 := [.im d, .im d', .im (.lst (eL d d')), .im (.lst (nL d d')), .im (.int 22), .im (.int 2), .im (.lst [.bl false, .bl false, .bl true, .bl false, .bl false, .bl true]), .im (.ex "Broken" [("shown", d'), ("index", d)]), .un]) (by kernel_rfl) ((seq_nx (ρ1 := [.im d, .im d', .im (.lst (eL d d')), .im (.lst (nL d d')), .im (.int 22), .im (.int 2), .im (.lst [.bl false, .bl false, .bl true, .bl false, .bl false, .bl true]), .im (.ex "Broken" [("shown", d'), ("index", d)]), .un]) (by kernel_rfl)).trans (if_no (ρ1 := [.im d, .im d', .im (.lst (eL d d')), .im (.lst (nL d d')), .im (.int 22), .im (.int 2), .im (.lst [.bl false, .bl false, .bl true, .bl false, .bl false, .bl true]), .im (.ex "Broken" [("shown", d'), ("index", d)]), .un]) (two_same (ρ1 := [.im d, .im d', .im (.lst (eL d d')), .im (.lst (nL d d')), .im (.int 22), .im (.int 2), .im (.lst [.bl false, .bl false, .bl true, .bl false, .bl false, .bl true]), .im (.ex "Broken" [("shown", d'), ("index", d)]), .un]) (repr_at (ρ1 := [.im d, .im d', .im (.lst (eL d d')), .im (.lst (nL d d')), .im (.int 22), .im (.int 2), .im (.lst [.bl false, .bl false, .bl true, .bl false, .bl false, .bl true]), .im (.ex "Broken" [("shown", d'), ("index", d)]), .un]) h1 (by kernel_rfl)) (repr_at (ρ1 := [.im d, .im d', .im (.lst (eL d d')), .im (.lst (nL d d')), .im (.int 22), .im (.int 2), .im (.lst [.bl false, .bl false, .bl true, .bl false, .bl false, .bl true]), .im (.ex "Broken" [("shown", d'), ("index", d)]), .un]) h1 (by kernel_rfl)))))).trans ((loop_nx (ρ1 := [.im d, .im d', .im (.lst (eL d d')), .im (.lst (nL d d')), .im (.int 22), .im (.int 2), .im (.lst [.bl false, .bl false, .bl true, .bl false, .bl false, .bl true]), .im (.ex "Broken" [("shown", d'), ("index", d)]), .un]) (ρ2 := [.im d, .im d', .im (.lst (eL d d')), .im (.lst (nL d d')), .im (.int 22), .im (.int 2), .im (.lst [.bl false, .bl false, .bl true, .bl false, .bl false, .bl true]), .im (.ex "Broken" [("shown", d'), ("index", d)]), .un]) (by kernel_rfl) ((seq_nx (ρ1 := [.im d, .im d', .im (.lst (eL d d')), .im (.lst (nL d d')), .im (.int 22), .im (.int 2), .im (.lst [.bl false, .bl false, .bl true, .bl false, .bl false, .bl true]), .im (.ex "Broken" [("shown", d'), ("index", d)]), .un]) (by kernel_rfl)).trans (if_no (ρ1 := [.im d, .im d', .im (.lst (eL d d')), .im (.lst (nL d d')), .im (.int 22), .im (.int 2), .im (.lst [.bl false, .bl false, .bl true, .bl false, .bl false, .bl true]), .im (.ex "Broken" [("shown", d'), ("index", d)]), .un]) (two_same (ρ1 := [.im d, .im d', .im (.lst (eL d d')), .im (.lst (nL d d')), .im (.int 22), .im (.int 2), .im (.lst [.bl false, .bl false, .bl true, .bl false, .bl false, .bl true]), .im (.ex "Broken" [("shown", d'), ("index", d)]), .un]) (repr_at (ρ1 := [.im d, .im d', .im (.lst (eL d d')), .im (.lst (nL d d')), .im (.int 22), .im (.int 2), .im (.lst [.bl false, .bl false, .bl true, .bl false, .bl false, .bl true]), .im (.ex "Broken" [("shown", d'), ("index", d)]), .un]) h1 (by kernel_rfl)) (repr_at (ρ1 := [.im d, .im d', .im (.lst (eL d d')), .im (.lst (nL d d')), .im (.int 22), .im (.int 2), .im (.lst [.bl false, .bl false, .bl true, .bl false, .bl false, .bl true]), .im (.ex "Broken" [("shown", d'), ("index", d)]), .un]) h1 (by kernel_rfl)))))).trans ?_)
      kernel_rfl
    kernel_rfl
  refine (congrArg resD (seq_nx (ρ1 := [.im d, .im d', .im (.lst (eL d d')), .im (.lst (nL d d')), .im (.int 22), .im (.int 2), .im (.lst [.bl false, .bl false, .bl true, .bl false, .bl false, .bl true]), .im (.ex "Broken" [("shown", d'), ("index", d)]), .im (.lst [.ex "Broken" [("shown", d'), ("index", d)], .ex "Broken" [("shown", d'), ("index", d)]])]) (by kernel_rfl))).trans ?_
  refine (congrArg resD (ret_ok (d := .bl true) (ρ1 := [.im d, .im d', .im (.lst (eL d d')), .im (.lst (nL d d')), .im (.int 22), .im (.int 2), .im (.lst [.bl false, .bl false, .bl true, .bl false, .bl false, .bl true]), .im (.ex "Broken" [("shown", d'), ("index", d)]), .im (.lst [.ex "Broken" [("shown", d'), ("index", d)], .ex "Broken" [("shown", d'), ("index", d)]])]) ((andV_t (ρ1 := [.im d, .im d', .im (.lst (eL d d')), .im (.lst (nL d d')), .im (.int 22), .im (.int 2), .im (.lst [.bl false, .bl false, .bl true, .bl false, .bl false, .bl true]), .im (.ex "Broken" [("shown", d'), ("index", d)]), .im (.lst [.ex "Broken" [("shown", d'), ("index", d)], .ex "Broken" [("shown", d'), ("index", d)]])]) (two_eq (ρ1 := [.im d, .im d', .im (.lst (eL d d')), .im (.lst (nL d d')), .im (.int 22), .im (.int 2), .im (.lst [.bl false, .bl false, .bl true, .bl false, .bl false, .bl true]), .im (.ex "Broken" [("shown", d'), ("index", d)]), .im (.lst [.ex "Broken" [("shown", d'), ("index", d)], .ex "Broken" [("shown", d'), ("index", d)]])]) (repr_at (d := .lst [d', d']) (ρ1 := [.im d, .im d', .im (.lst (eL d d')), .im (.lst (nL d d')), .im (.int 22), .im (.int 2), .im (.lst [.bl false, .bl false, .bl true, .bl false, .bl false, .bl true]), .im (.ex "Broken" [("shown", d'), ("index", d)]), .im (.lst [.ex "Broken" [("shown", d'), ("index", d)], .ex "Broken" [("shown", d'), ("index", d)]])]) h2 (by kernel_rfl)) (repr_at (d := .lst [d', d']) (ρ1 := [.im d, .im d', .im (.lst (eL d d')), .im (.lst (nL d d')), .im (.int 22), .im (.int 2), .im (.lst [.bl false, .bl false, .bl true, .bl false, .bl false, .bl true]), .im (.ex "Broken" [("shown", d'), ("index", d)]), .im (.lst [.ex "Broken" [("shown", d'), ("index", d)], .ex "Broken" [("shown", d'), ("index", d)]])]) h2 (by kernel_rfl)))).trans (two_eq (ρ1 := [.im d, .im d', .im (.lst (eL d d')), .im (.lst (nL d d')), .im (.int 22), .im (.int 2), .im (.lst [.bl false, .bl false, .bl true, .bl false, .bl false, .bl true]), .im (.ex "Broken" [("shown", d'), ("index", d)]), .im (.lst [.ex "Broken" [("shown", d'), ("index", d)], .ex "Broken" [("shown", d'), ("index", d)]])]) (repr_at (d := .lst [d, d, d]) (ρ1 := [.im d, .im d', .im (.lst (eL d d')), .im (.lst (nL d d')), .im (.int 22), .im (.int 2), .im (.lst [.bl false, .bl false, .bl true, .bl false, .bl false, .bl true]), .im (.ex "Broken" [("shown", d'), ("index", d)]), .im (.lst [.ex "Broken" [("shown", d'), ("index", d)], .ex "Broken" [("shown", d'), ("index", d)]])]) h3 (by kernel_rfl)) (repr_at (d := .lst [d, d, d]) (ρ1 := [.im d, .im d', .im (.lst (eL d d')), .im (.lst (nL d d')), .im (.int 22), .im (.int 2), .im (.lst [.bl false, .bl false, .bl true, .bl false, .bl false, .bl true]), .im (.ex "Broken" [("shown", d'), ("index", d)]), .im (.lst [.ex "Broken" [("shown", d'), ("index", d)], .ex "Broken" [("shown", d'), ("index", d)]])]) h3 (by kernel_rfl)))))).trans ?_
  rfl
end KX

set_option Elab.async false
set_option linter.all false
set_option maxRecDepth 100000
set_option maxHeartbeats 0
namespace KX
open PySem PySem.Spec PyProof.Rows L2 DL
/-- a datum that repr shows, shortly -/
def Small (d : D) : Prop := ∃ p, toPy d = some p ∧ p.showable = true ∧ p.hasDict = false ∧ p.depth < 40 ∧ p.shown.length ≤ 1000
theorem Small.shown {d : D} (h : Small d) : ∃ t, shownD d = some t := by
  obtain ⟨p, e, h1, h2, h3, h4⟩ := h
  refine ⟨p.shown, ?_⟩
  unfold shownD
  rw [e]
  have h5 : p.depth < 50 := by omega
  have h6 : p.shown.length ≤ 16777216 := by omega
  simp [h1, h2, h5, h6]
theorem small_list {d : D} (h : Small d) (n : Nat) (hn : n ≤ 3) : ∃ t, shownD (.lst (List.replicate n d)) = some t := by
  obtain ⟨p, e, h1, h2, h3, h4⟩ := h
  have e2 : ∀ n, toPys (List.replicate n d) = some (List.replicate n p) := fun n => by
    induction n with
    | zero => rfl
    | succ n ih => rw [List.replicate_succ, List.replicate_succ, toPys, e, ih]
  have k1 : ∀ n, PyData.showableAll (List.replicate n p) = true := fun n => by
    induction n with
    | zero => rfl
    | succ n ih => rw [List.replicate_succ, PyData.showableAll, h1, ih]; rfl
  have k2 : ∀ n, PyData.hasDictAll (List.replicate n p) = false := fun n => by
    induction n with
    | zero => rfl
    | succ n ih => rw [List.replicate_succ, PyData.hasDictAll, h2, ih]; rfl
  have k3 : ∀ n, PyData.depthAll (List.replicate n p) < 40 := fun n => by
    induction n with
    | zero => show PyData.depthAll [] < 40; rw [PyData.depthAll]; omega
    | succ n ih => rw [List.replicate_succ, PyData.depthAll]; omega
  have k4 : ∀ n, PyData.shownAll (List.replicate n p) = List.replicate n p.shown := fun n => by
    induction n with
    | zero => rfl
    | succ n ih => rw [List.replicate_succ, List.replicate_succ, PyData.shownAll, ih]
  refine ⟨(PyData.list (List.replicate n p)).shown, ?_⟩
  unfold shownD
  have e3 : toPy (.lst (List.replicate n d)) = some (.list (List.replicate n p)) := by rw [toPy, e2]; rfl
  rw [e3]
  have s1 : (PyData.list (List.replicate n p)).showable = true := by rw [PyData.showable]; exact k1 n
  have s2 : (PyData.list (List.replicate n p)).hasDict = false := by rw [PyData.hasDict]; exact k2 n
  have s3 : (PyData.list (List.replicate n p)).depth < 50 := by have := k3 n; rw [PyData.depth]; omega
  have s4 : (PyData.list (List.replicate n p)).shown.length ≤ 16777216 := by
    rw [PyData.shown, k4]
    have z := listText_len_le (List.replicate n p.shown)
    rw [List.map_replicate, List.sum_replicate_nat, List.length_replicate] at z
    have : n * p.shown.length ≤ 3 * 1000 := Nat.mul_le_mul hn h4
    omega
  simp [s1, s2, s3, s4]
theorem right_sm {d d' : D} (h : Small d) (h' : Small d') : F__law_right [d, d'] = .ok (.bl true) := by
  obtain ⟨t, e1⟩ := h.shown
  obtain ⟨t2, e2⟩ := small_list h' 2 (by decide)
  obtain ⟨t3, e3⟩ := small_list h 3 (by decide)
  exact right_eq d d' t t2 t3 e1 e2 e3
theorem small_int {i : Int} (h0 : 0 ≤ i) (h : i < 1000000000000) : Small (.int i) := by
  have hn : i.natAbs < 10 ^ 12 := by
    have : (10 : Nat) ^ 12 = 1000000000000 := by decide
    omega
  refine ⟨.int i, rfl, ?_, rfl, by rw [PyData.depth]; decide, ?_⟩
  · rw [PyData.showable]
    refine decide_eq_true ?_
    by_cases z : i.natAbs = 0
    · rw [z]; decide
    · exact (Nat.log2_lt z).mpr (Nat.lt_of_lt_of_le hn (by decide +kernel))
  · rw [PyData.shown]
    have e := int_text_length_le10 (k := 12) (by decide) hn
    show (Str.ofString (toString i)).length ≤ 1000
    rw [PySem.ofString_length]; omega
theorem cut3 (ds : List D) : DL.cutD ds none (some 3) = ds.take 3 := by
  unfold DL.cutD
  rw [HT.sIx_none, show (some (3 : Int)) = some ((3 : Nat) : Int) from rfl, HT.sIx_nat]
  show (ds.drop 0).take (min 3 ds.length - 0) = ds.take 3
  rw [List.drop_zero, Nat.sub_zero]
  by_cases h : 3 ≤ ds.length
  · rw [Nat.min_eq_left h]
  · rw [Nat.min_eq_right (by omega), List.take_of_length_le (Nat.le_refl _), List.take_of_length_le (by omega)]
theorem bind_okL {f : M (List D)} {k : List D → M D} {ds : List D} {ρ ρ1 : Sls} (h : f ρ = .ok ds ρ1) : (f.bind k) ρ = k ds ρ1 := by
  unfold M.bind; rw [h]
theorem bind_okD {f : M D} {k : D → M Out} {d : D} {ρ ρ1 : Sls} (h : f ρ = .ok d ρ1) : (f.bind k) ρ = k d ρ1 := by
  unfold M.bind; rw [h]
theorem two_ok {fa fb : M D} {g : D → D → M D} {d e : D} {ρ ρ1 ρ2 : Sls} (h1 : fa ρ = .ok d ρ1) (h2 : fb ρ1 = .ok e ρ2) : M.two fa fb g ρ = g d e ρ2 := by
  unfold M.two M.bind
  rw [h1]; dsimp only; rw [h2]
theorem compL_yes {vs : List Nat} {g : Tg} {tt : M Bool} {fe : M D} {d y : D} {ds acc : List D} {ρ ρ1 ρ2 ρ3 ρ4 : Sls} (h1 : g d (inBlk ρ vs) = some ρ1) (h2 : tt ρ1 = .ok true ρ2) (h3 : fe ρ2 = .ok y ρ3) (h4 : outBlk ρ ρ3 = ρ4) (hl : acc.length < 16777216) :
    M.compL vs g tt fe (d :: ds) acc ρ = M.compL vs g tt fe ds (acc ++ [y]) ρ4 := by
  show (match g d (inBlk ρ vs) with | none => Ret.no | some ρ1 => _) = _
  rw [h1]; dsimp only; rw [h2]; dsimp only; rw [h3]; dsimp only; rw [if_pos hl, h4]
theorem call_ok {n : Nat} {fn : List D → Res D} {fs : M (List D)} {ds : List D} {y : D} {ρ ρ1 : Sls} (h : fs ρ = .ok ds ρ1) (hn : ds.length = n) (hf : fn ds = .ok y) : (fs.bind (M.call n fn)) ρ = .ok y ρ1 := by
  unfold M.bind; rw [h]
  show (M.grd (decide (ds.length = n)) (M.res (fn ds))) ρ1 = _
  rw [hf, decide_eq_true hn]; rfl
end KX

set_option Elab.async false
set_option linter.all false
set_option maxRecDepth 100000
set_option maxHeartbeats 0
namespace KX
open PySem PySem.Spec PyProof.Rows L2 DL
theorem small_m (a : Int) : Small (.int (a % 1000000000000)) := small_int (Int.emod_nonneg _ (by decide)) (Int.emod_lt_of_pos _ (by decide))
theorem sm0 : Small .non := ⟨_, rfl, rfl, rfl, by decide +kernel, by decide +kernel⟩
theorem sm1 : Small (.str "a") := ⟨_, rfl, rfl, rfl, by decide +kernel, by decide +kernel⟩
theorem sm2 : Small (.tup [.int 1, .str "x"]) := ⟨_, rfl, by decide +kernel, by decide +kernel, by decide +kernel, by decide +kernel⟩
theorem sm3 : Small (.bl true) := ⟨_, rfl, rfl, rfl, by decide +kernel, by decide +kernel⟩
theorem sm4 : Small (.int (-3)) := ⟨_, rfl, by decide +kernel, rfl, by decide +kernel, by decide +kernel⟩
theorem law0 (ds : List D) (h : DL.cutD ds none (some 3) = []) : F_law [.rol ds] = .ok (.bl true) := by
  show resD (b_law.1 [.im (.rol ds), .un, .un, .un, .un]) = _
  unfold b_law
  dsimp only
  refine (congrArg resD (seq_nx (ρ1 := [.im (.rol ds), .im (.lst [.int 6, .int 60, .int 200, .int 3000, .int 3, .int 20]), .un, .un, .un]) (by kernel_rfl))).trans ?_
  refine (congrArg resD (seq_nx (ρ1 := [.im (.rol ds), .im (.lst [.int 6, .int 60, .int 200, .int 3000, .int 3, .int 20]), .un, .un, .un]) (by kernel_rfl))).trans ?_
  refine (congrArg resD (seq_nx (ρ1 := [.im (.rol ds), .im (.lst [.int 6, .int 60, .int 200, .int 3000, .int 3, .int 20]), .im (.lst [.non, .str "a", .tup [.int 1, .str "x"], .bl true, .int (-3)]), .un, .un]) ((bind_okD (d := .lst [.non, .str "a", .tup [.int 1, .str "x"], .bl true, .int (-3)]) (ρ1 := [.im (.rol ds), .im (.lst [.int 6, .int 60, .int 200, .int 3000, .int 3, .int 20]), .un, .un, .un]) ((two_ok (d := .lst [.non, .str "a", .tup [.int 1, .str "x"], .bl true, .int (-3)]) (e := .lst []) (ρ1 := [.im (.rol ds), .im (.lst [.int 6, .int 60, .int 200, .int 3000, .int 3, .int 20]), .un, .un, .un]) (ρ2 := [.im (.rol ds), .im (.lst [.int 6, .int 60, .int 200, .int 3000, .int 3, .int 20]), .un, .un, .un]) (by kernel_rfl) ((bind_okL (ds := []) (ρ1 := [.im (.rol ds), .im (.lst [.int 6, .int 60, .int 200, .int 3000, .int 3, .int 20]), .un, .un, .un]) (by
      refine Eq.trans (b := Ret.ok (DL.cutD ds none (some 3)) [.im (.rol ds), .im (.lst [.int 6, .int 60, .int 200, .int 3000, .int 3, .int 20]), .un, .un, .un]) (by kernel_rfl) ?_
      rw [h])).trans (by kernel_rfl))).trans (by kernel_rfl))).trans (by kernel_rfl)))).trans ?_
  refine (congrArg resD (ret_ok (d := .bl true) (ρ1 := [.im (.rol ds), .im (.lst [.int 6, .int 60, .int 200, .int 3000, .int 3, .int 20]), .im (.lst [.non, .str "a", .tup [.int 1, .str "x"], .bl true, .int (-3)]), .un, .un]) ((bind_okL (ds := [.lst [.bl true, .bl true, .bl true, .bl true, .bl true]]) (ρ1 := [.im (.rol ds), .im (.lst [.int 6, .int 60, .int 200, .int 3000, .int 3, .int 20]), .im (.lst [.non, .str "a", .tup [.int 1, .str "x"], .bl true, .int (-3)]), .un, .un]) ?_).trans (by kernel_rfl)))).trans rfl
  refine Eq.trans (b := Ret.ok [D.lst [.bl true, .bl true, .bl true, .bl true, .bl true]] [.im (.rol ds), .im (.lst [.int 6, .int 60, .int 200, .int 3000, .int 3, .int 20]), .im (.lst [.non, .str "a", .tup [.int 1, .str "x"], .bl true, .int (-3)]), .un, .un]) ?_ rfl
  have key : ∀ (f : M D) (ρ ρ1 : Sls) (d : D), f ρ = .ok d ρ1 → (f.cons (M.ret [])) ρ = .ok [d] ρ1 := fun f ρ ρ1 d e => by
    unfold M.cons M.bind; rw [e]; rfl
  refine key _ _ _ _ ?_
  refine (bind_okL (ds := [.int 0, .int 1, .int 2, .int 3, .int 4]) (ρ1 := [.im (.rol ds), .im (.lst [.int 6, .int 60, .int 200, .int 3000, .int 3, .int 20]), .im (.lst [.non, .str "a", .tup [.int 1, .str "x"], .bl true, .int (-3)]), .un, .un]) (by kernel_rfl)).trans ?_
  refine (bind_okL (ds := [.bl true, .bl true, .bl true, .bl true, .bl true]) (ρ1 := [.im (.rol ds), .im (.lst [.int 6, .int 60, .int 200, .int 3000, .int 3, .int 20]), .im (.lst [.non, .str "a", .tup [.int 1, .str "x"], .bl true, .int (-3)]), .un, .un]) ?_).trans rfl
  refine (compL_yes (y := .bl true) (ρ1 := [.im (.rol ds), .im (.lst [.int 6, .int 60, .int 200, .int 3000, .int 3, .int 20]), .im (.lst [.non, .str "a", .tup [.int 1, .str "x"], .bl true, .int (-3)]), .un, .im (.int 0)]) (ρ2 := [.im (.rol ds), .im (.lst [.int 6, .int 60, .int 200, .int 3000, .int 3, .int 20]), .im (.lst [.non, .str "a", .tup [.int 1, .str "x"], .bl true, .int (-3)]), .un, .im (.int 0)]) (ρ3 := [.im (.rol ds), .im (.lst [.int 6, .int 60, .int 200, .int 3000, .int 3, .int 20]), .im (.lst [.non, .str "a", .tup [.int 1, .str "x"], .bl true, .int (-3)]), .un, .im (.int 0)]) (ρ4 := [.im (.rol ds), .im (.lst [.int 6, .int 60, .int 200, .int 3000, .int 3, .int 20]), .im (.lst [.non, .str "a", .tup [.int 1, .str "x"], .bl true, .int (-3)]), .un, .un]) (by kernel_rfl) (by kernel_rfl) (call_ok (ds := [.non, .int (-3)]) (by kernel_rfl) rfl (right_sm sm0 sm4)) (by kernel_rfl) (by decide)).trans ?_
  refine (compL_yes (y := .bl true) (ρ1 := [.im (.rol ds), .im (.lst [.int 6, .int 60, .int 200, .int 3000, .int 3, .int 20]), .im (.lst [.non, .str "a", .tup [.int 1, .str "x"], .bl true, .int (-3)]), .un, .im (.int 1)]) (ρ2 := [.im (.rol ds), .im (.lst [.int 6, .int 60, .int 200, .int 3000, .int 3, .int 20]), .im (.lst [.non, .str "a", .tup [.int 1, .str "x"], .bl true, .int (-3)]), .un, .im (.int 1)]) (ρ3 := [.im (.rol ds), .im (.lst [.int 6, .int 60, .int 200, .int 3000, .int 3, .int 20]), .im (.lst [.non, .str "a", .tup [.int 1, .str "x"], .bl true, .int (-3)]), .un, .im (.int 1)]) (ρ4 := [.im (.rol ds), .im (.lst [.int 6, .int 60, .int 200, .int 3000, .int 3, .int 20]), .im (.lst [.non, .str "a", .tup [.int 1, .str "x"], .bl true, .int (-3)]), .un, .un]) (by kernel_rfl) (by kernel_rfl) (call_ok (ds := [.str "a", .non]) (by kernel_rfl) rfl (right_sm sm1 sm0)) (by kernel_rfl) (by decide)).trans ?_
  refine (compL_yes (y := .bl true) (ρ1 := [.im (.rol ds), .im (.lst [.int 6, .int 60, .int 200, .int 3000, .int 3, .int 20]), .im (.lst [.non, .str "a", .tup [.int 1, .str "x"], .bl true, .int (-3)]), .un, .im (.int 2)]) (ρ2 := [.im (.rol ds), .im (.lst [.int 6, .int 60, .int 200, .int 3000, .int 3, .int 20]), .im (.lst [.non, .str "a", .tup [.int 1, .str "x"], .bl true, .int (-3)]), .un, .im (.int 2)]) (ρ3 := [.im (.rol ds), .im (.lst [.int 6, .int 60, .int 200, .int 3000, .int 3, .int 20]), .im (.lst [.non, .str "a", .tup [.int 1, .str "x"], .bl true, .int (-3)]), .un, .im (.int 2)]) (ρ4 := [.im (.rol ds), .im (.lst [.int 6, .int 60, .int 200, .int 3000, .int 3, .int 20]), .im (.lst [.non, .str "a", .tup [.int 1, .str "x"], .bl true, .int (-3)]), .un, .un]) (by kernel_rfl) (by kernel_rfl) (call_ok (ds := [.tup [.int 1, .str "x"], .str "a"]) (by kernel_rfl) rfl (right_sm sm2 sm1)) (by kernel_rfl) (by decide)).trans ?_
  refine (compL_yes (y := .bl true) (ρ1 := [.im (.rol ds), .im (.lst [.int 6, .int 60, .int 200, .int 3000, .int 3, .int 20]), .im (.lst [.non, .str "a", .tup [.int 1, .str "x"], .bl true, .int (-3)]), .un, .im (.int 3)]) (ρ2 := [.im (.rol ds), .im (.lst [.int 6, .int 60, .int 200, .int 3000, .int 3, .int 20]), .im (.lst [.non, .str "a", .tup [.int 1, .str "x"], .bl true, .int (-3)]), .un, .im (.int 3)]) (ρ3 := [.im (.rol ds), .im (.lst [.int 6, .int 60, .int 200, .int 3000, .int 3, .int 20]), .im (.lst [.non, .str "a", .tup [.int 1, .str "x"], .bl true, .int (-3)]), .un, .im (.int 3)]) (ρ4 := [.im (.rol ds), .im (.lst [.int 6, .int 60, .int 200, .int 3000, .int 3, .int 20]), .im (.lst [.non, .str "a", .tup [.int 1, .str "x"], .bl true, .int (-3)]), .un, .un]) (by kernel_rfl) (by kernel_rfl) (call_ok (ds := [.bl true, .tup [.int 1, .str "x"]]) (by kernel_rfl) rfl (right_sm sm3 sm2)) (by kernel_rfl) (by decide)).trans ?_
  refine (compL_yes (y := .bl true) (ρ1 := [.im (.rol ds), .im (.lst [.int 6, .int 60, .int 200, .int 3000, .int 3, .int 20]), .im (.lst [.non, .str "a", .tup [.int 1, .str "x"], .bl true, .int (-3)]), .un, .im (.int 4)]) (ρ2 := [.im (.rol ds), .im (.lst [.int 6, .int 60, .int 200, .int 3000, .int 3, .int 20]), .im (.lst [.non, .str "a", .tup [.int 1, .str "x"], .bl true, .int (-3)]), .un, .im (.int 4)]) (ρ3 := [.im (.rol ds), .im (.lst [.int 6, .int 60, .int 200, .int 3000, .int 3, .int 20]), .im (.lst [.non, .str "a", .tup [.int 1, .str "x"], .bl true, .int (-3)]), .un, .im (.int 4)]) (ρ4 := [.im (.rol ds), .im (.lst [.int 6, .int 60, .int 200, .int 3000, .int 3, .int 20]), .im (.lst [.non, .str "a", .tup [.int 1, .str "x"], .bl true, .int (-3)]), .un, .un]) (by kernel_rfl) (by kernel_rfl) (call_ok (ds := [.int (-3), .bl true]) (by kernel_rfl) rfl (right_sm sm4 sm3)) (by kernel_rfl) (by decide)).trans ?_
  kernel_rfl
theorem law1 (ds : List D) (a : Int) (h : DL.cutD ds none (some 3) = [.int a]) : F_law [.rol ds] = .ok (.bl true) := by
  show resD (b_law.1 [.im (.rol ds), .un, .un, .un, .un]) = _
  unfold b_law
  dsimp only
  refine (congrArg resD (seq_nx (ρ1 := [.im (.rol ds), .im (.lst [.int 6, .int 60, .int 200, .int 3000, .int 3, .int 20]), .un, .un, .un]) (by kernel_rfl))).trans ?_
  refine (congrArg resD (seq_nx (ρ1 := [.im (.rol ds), .im (.lst [.int 6, .int 60, .int 200, .int 3000, .int 3, .int 20]), .un, .un, .un]) (by kernel_rfl))).trans ?_
  refine (congrArg resD (seq_nx (ρ1 := [.im (.rol ds), .im (.lst [.int 6, .int 60, .int 200, .int 3000, .int 3, .int 20]), .im (.lst [.non, .str "a", .tup [.int 1, .str "x"], .bl true, .int (-3), .int (a % 1000000000000)]), .un, .un]) ((bind_okD (d := .lst [.non, .str "a", .tup [.int 1, .str "x"], .bl true, .int (-3), .int (a % 1000000000000)]) (ρ1 := [.im (.rol ds), .im (.lst [.int 6, .int 60, .int 200, .int 3000, .int 3, .int 20]), .un, .un, .un]) ((two_ok (d := .lst [.non, .str "a", .tup [.int 1, .str "x"], .bl true, .int (-3)]) (e := .lst [.int (a % 1000000000000)]) (ρ1 := [.im (.rol ds), .im (.lst [.int 6, .int 60, .int 200, .int 3000, .int 3, .int 20]), .un, .un, .un]) (ρ2 := [.im (.rol ds), .im (.lst [.int 6, .int 60, .int 200, .int 3000, .int 3, .int 20]), .un, .un, .un]) (by kernel_rfl) ((bind_okL (ds := [.int a]) (ρ1 := [.im (.rol ds), .im (.lst [.int 6, .int 60, .int 200, .int 3000, .int 3, .int 20]), .un, .un, .un]) (by
      refine Eq.trans (b := Ret.ok (DL.cutD ds none (some 3)) [.im (.rol ds), .im (.lst [.int 6, .int 60, .int 200, .int 3000, .int 3, .int 20]), .un, .un, .un]) (by kernel_rfl) ?_
      rw [h])).trans (by kernel_rfl))).trans (by kernel_rfl))).trans (by kernel_rfl)))).trans ?_
  refine (congrArg resD (ret_ok (d := .bl true) (ρ1 := [.im (.rol ds), .im (.lst [.int 6, .int 60, .int 200, .int 3000, .int 3, .int 20]), .im (.lst [.non, .str "a", .tup [.int 1, .str "x"], .bl true, .int (-3), .int (a % 1000000000000)]), .un, .un]) ((bind_okL (ds := [.lst [.bl true, .bl true, .bl true, .bl true, .bl true, .bl true]]) (ρ1 := [.im (.rol ds), .im (.lst [.int 6, .int 60, .int 200, .int 3000, .int 3, .int 20]), .im (.lst [.non, .str "a", .tup [.int 1, .str "x"], .bl true, .int (-3), .int (a % 1000000000000)]), .un, .un]) ?_).trans (by kernel_rfl)))).trans rfl
  refine Eq.trans (b := Ret.ok [D.lst [.bl true, .bl true, .bl true, .bl true, .bl true, .bl true]] [.im (.rol ds), .im (.lst [.int 6, .int 60, .int 200, .int 3000, .int 3, .int 20]), .im (.lst [.non, .str "a", .tup [.int 1, .str "x"], .bl true, .int (-3), .int (a % 1000000000000)]), .un, .un]) ?_ rfl
  have key : ∀ (f : M D) (ρ ρ1 : Sls) (d : D), f ρ = .ok d ρ1 → (f.cons (M.ret [])) ρ = .ok [d] ρ1 := fun f ρ ρ1 d e => by
    unfold M.cons M.bind; rw [e]; rfl
  refine key _ _ _ _ ?_
  refine (bind_okL (ds := [.int 0, .int 1, .int 2, .int 3, .int 4, .int 5]) (ρ1 := [.im (.rol ds), .im (.lst [.int 6, .int 60, .int 200, .int 3000, .int 3, .int 20]), .im (.lst [.non, .str "a", .tup [.int 1, .str "x"], .bl true, .int (-3), .int (a % 1000000000000)]), .un, .un]) (by kernel_rfl)).trans ?_
  refine (bind_okL (ds := [.bl true, .bl true, .bl true, .bl true, .bl true, .bl true]) (ρ1 := [.im (.rol ds), .im (.lst [.int 6, .int 60, .int 200, .int 3000, .int 3, .int 20]), .im (.lst [.non, .str "a", .tup [.int 1, .str "x"], .bl true, .int (-3), .int (a % 1000000000000)]), .un, .un]) ?_).trans rfl
  refine (compL_yes (y := .bl true) (ρ1 := [.im (.rol ds), .im (.lst [.int 6, .int 60, .int 200, .int 3000, .int 3, .int 20]), .im (.lst [.non, .str "a", .tup [.int 1, .str "x"], .bl true, .int (-3), .int (a % 1000000000000)]), .un, .im (.int 0)]) (ρ2 := [.im (.rol ds), .im (.lst [.int 6, .int 60, .int 200, .int 3000, .int 3, .int 20]), .im (.lst [.non, .str "a", .tup [.int 1, .str "x"], .bl true, .int (-3), .int (a % 1000000000000)]), .un, .im (.int 0)]) (ρ3 := [.im (.rol ds), .im (.lst [.int 6, .int 60, .int 200, .int 3000, .int 3, .int 20]), .im (.lst [.non, .str "a", .tup [.int 1, .str "x"], .bl true, .int (-3), .int (a % 1000000000000)]), .un, .im (.int 0)]) (ρ4 := [.im (.rol ds), .im (.lst [.int 6, .int 60, .int 200, .int 3000, .int 3, .int 20]), .im (.lst [.non, .str "a", .tup [.int 1, .str "x"], .bl true, .int (-3), .int (a % 1000000000000)]), .un, .un]) (by kernel_rfl) (by kernel_rfl) (call_ok (ds := [.non, .int (a % 1000000000000)]) (by kernel_rfl) rfl (right_sm sm0 (small_m a))) (by kernel_rfl) (by decide)).trans ?_
  refine (compL_yes (y := .bl true) (ρ1 := [.im (.rol ds), .im (.lst [.int 6, .int 60, .int 200, .int 3000, .int 3, .int 20]), .im (.lst [.non, .str "a", .tup [.int 1, .str "x"], .bl true, .int (-3), .int (a % 1000000000000)]), .un, .im (.int 1)]) (ρ2 := [.im (.rol ds), .im (.lst [.int 6, .int 60, .int 200, .int 3000, .int 3, .int 20]), .im (.lst [.non, .str "a", .tup [.int 1, .str "x"], .bl true, .int (-3), .int (a % 1000000000000)]), .un, .im (.int 1)]) (ρ3 := [.im (.rol ds), .im (.lst [.int 6, .int 60, .int 200, .int 3000, .int 3, .int 20]), .im (.lst [.non, .str "a", .tup [.int 1, .str "x"], .bl true, .int (-3), .int (a % 1000000000000)]), .un, .im (.int 1)]) (ρ4 := [.im (.rol ds), .im (.lst [.int 6, .int 60, .int 200, .int 3000, .int 3, .int 20]), .im (.lst [.non, .str "a", .tup [.int 1, .str "x"], .bl true, .int (-3), .int (a % 1000000000000)]), .un, .un]) (by kernel_rfl) (by kernel_rfl) (call_ok (ds := [.str "a", .non]) (by kernel_rfl) rfl (right_sm sm1 sm0)) (by kernel_rfl) (by decide)).trans ?_
  refine (compL_yes (y := .bl true) (ρ1 := [.im (.rol ds), .im (.lst [.int 6, .int 60, .int 200, .int 3000, .int 3, .int 20]), .im (.lst [.non, .str "a", .tup [.int 1, .str "x"], .bl true, .int (-3), .int (a % 1000000000000)]), .un, .im (.int 2)]) (ρ2 := [.im (.rol ds), .im (.lst [.int 6, .int 60, .int 200, .int 3000, .int 3, .int 20]), .im (.lst [.non, .str "a", .tup [.int 1, .str "x"], .bl true, .int (-3), .int (a % 1000000000000)]), .un, .im (.int 2)]) (ρ3 := [.im (.rol ds), .im (.lst [.int 6, .int 60, .int 200, .int 3000, .int 3, .int 20]), .im (.lst [.non, .str "a", .tup [.int 1, .str "x"], .bl true, .int (-3), .int (a % 1000000000000)]), .un, .im (.int 2)]) (ρ4 := [.im (.rol ds), .im (.lst [.int 6, .int 60, .int 200, .int 3000, .int 3, .int 20]), .im (.lst [.non, .str "a", .tup [.int 1, .str "x"], .bl true, .int (-3), .int (a % 1000000000000)]), .un, .un]) (by kernel_rfl) (by kernel_rfl) (call_ok (ds := [.tup [.int 1, .str "x"], .str "a"]) (by kernel_rfl) rfl (right_sm sm2 sm1)) (by kernel_rfl) (by decide)).trans ?_
  refine (compL_yes (y := .bl true) (ρ1 := [.im (.rol ds), .im (.lst [.int 6, .int 60, .int 200, .int 3000, .int 3, .int 20]), .im (.lst [.non, .str "a", .tup [.int 1, .str "x"], .bl true, .int (-3), .int (a % 1000000000000)]), .un, .im (.int 3)]) (ρ2 := [.im (.rol ds), .im (.lst [.int 6, .int 60, .int 200, .int 3000, .int 3, .int 20]), .im (.lst [.non, .str "a", .tup [.int 1, .str "x"], .bl true, .int (-3), .int (a % 1000000000000)]), .un, .im (.int 3)]) (ρ3 := [.im (.rol ds), .im (.lst [.int 6, .int 60, .int 200, .int 3000, .int 3, .int 20]), .im (.lst [.non, .str "a", .tup [.int 1, .str "x"], .bl true, .int (-3), .int (a % 1000000000000)]), .un, .im (.int 3)]) (ρ4 := [.im (.rol ds), .im (.lst [.int 6, .int 60, .int 200, .int 3000, .int 3, .int 20]), .im (.lst [.non, .str "a", .tup [.int 1, .str "x"], .bl true, .int (-3), .int (a % 1000000000000)]), .un, .un]) (by kernel_rfl) (by kernel_rfl) (call_ok (ds := [.bl true, .tup [.int 1, .str "x"]]) (by kernel_rfl) rfl (right_sm sm3 sm2)) (by kernel_rfl) (by decide)).trans ?_
  refine (compL_yes (y := .bl true) (ρ1 := [.im (.rol ds), .im (.lst [.int 6, .int 60, .int 200, .int 3000, .int 3, .int 20]), .im (.lst [.non, .str "a", .tup [.int 1, .str "x"], .bl true, .int (-3), .int (a % 1000000000000)]), .un, .im (.int 4)]) (ρ2 := [.im (.rol ds), .im (.lst [.int 6, .int 60, .int 200, .int 3000, .int 3, .int 20]), .im (.lst [.non, .str "a", .tup [.int 1, .str "x"], .bl true, .int (-3), .int (a % 1000000000000)]), .un, .im (.int 4)]) (ρ3 := [.im (.rol ds), .im (.lst [.int 6, .int 60, .int 200, .int 3000, .int 3, .int 20]), .im (.lst [.non, .str "a", .tup [.int 1, .str "x"], .bl true, .int (-3), .int (a % 1000000000000)]), .un, .im (.int 4)]) (ρ4 := [.im (.rol ds), .im (.lst [.int 6, .int 60, .int 200, .int 3000, .int 3, .int 20]), .im (.lst [.non, .str "a", .tup [.int 1, .str "x"], .bl true, .int (-3), .int (a % 1000000000000)]), .un, .un]) (by kernel_rfl) (by kernel_rfl) (call_ok (ds := [.int (-3), .bl true]) (by kernel_rfl) rfl (right_sm sm4 sm3)) (by kernel_rfl) (by decide)).trans ?_
  refine (compL_yes (y := .bl true) (ρ1 := [.im (.rol ds), .im (.lst [.int 6, .int 60, .int 200, .int 3000, .int 3, .int 20]), .im (.lst [.non, .str "a", .tup [.int 1, .str "x"], .bl true, .int (-3), .int (a % 1000000000000)]), .un, .im (.int 5)]) (ρ2 := [.im (.rol ds), .im (.lst [.int 6, .int 60, .int 200, .int 3000, .int 3, .int 20]), .im (.lst [.non, .str "a", .tup [.int 1, .str "x"], .bl true, .int (-3), .int (a % 1000000000000)]), .un, .im (.int 5)]) (ρ3 := [.im (.rol ds), .im (.lst [.int 6, .int 60, .int 200, .int 3000, .int 3, .int 20]), .im (.lst [.non, .str "a", .tup [.int 1, .str "x"], .bl true, .int (-3), .int (a % 1000000000000)]), .un, .im (.int 5)]) (ρ4 := [.im (.rol ds), .im (.lst [.int 6, .int 60, .int 200, .int 3000, .int 3, .int 20]), .im (.lst [.non, .str "a", .tup [.int 1, .str "x"], .bl true, .int (-3), .int (a % 1000000000000)]), .un, .un]) (by kernel_rfl) (by kernel_rfl) (call_ok (ds := [.int (a % 1000000000000), .int (-3)]) (by kernel_rfl) rfl (right_sm (small_m a) sm4)) (by kernel_rfl) (by decide)).trans ?_
  kernel_rfl
theorem law2 (ds : List D) (a : Int) (b : Int) (h : DL.cutD ds none (some 3) = [.int a, .int b]) : F_law [.rol ds] = .ok (.bl true) := by
  show resD (b_law.1 [.im (.rol ds), .un, .un, .un, .un]) = _
  unfold b_law
  dsimp only
  refine (congrArg resD (seq_nx (ρ1 := [.im (.rol ds), .im (.lst [.int 6, .int 60, .int 200, .int 3000, .int 3, .int 20]), .un, .un, .un]) (by kernel_rfl))).trans ?_
  refine (congrArg resD (seq_nx (ρ1 := [.im (.rol ds), .im (.lst [.int 6, .int 60, .int 200, .int 3000, .int 3, .int 20]), .un, .un, .un]) (by kernel_rfl))).trans ?_
  refine (congrArg resD (seq_nx (ρ1 := [.im (.rol ds), .im (.lst [.int 6, .int 60, .int 200, .int 3000, .int 3, .int 20]), .im (.lst [.non, .str "a", .tup [.int 1, .str "x"], .bl true, .int (-3), .int (a % 1000000000000), .int (b % 1000000000000)]), .un, .un]) ((bind_okD (d := .lst [.non, .str "a", .tup [.int 1, .str "x"], .bl true, .int (-3), .int (a % 1000000000000), .int (b % 1000000000000)]) (ρ1 := [.im (.rol ds), .im (.lst [.int 6, .int 60, .int 200, .int 3000, .int 3, .int 20]), .un, .un, .un]) ((two_ok (d := .lst [.non, .str "a", .tup [.int 1, .str "x"], .bl true, .int (-3)]) (e := .lst [.int (a % 1000000000000), .int (b % 1000000000000)]) (ρ1 := [.im (.rol ds), .im (.lst [.int 6, .int 60, .int 200, .int 3000, .int 3, .int 20]), .un, .un, .un]) (ρ2 := [.im (.rol ds), .im (.lst [.int 6, .int 60, .int 200, .int 3000, .int 3, .int 20]), .un, .un, .un]) (by kernel_rfl) ((bind_okL (ds := [.int a, .int b]) (ρ1 := [.im (.rol ds), .im (.lst [.int 6, .int 60, .int 200, .int 3000, .int 3, .int 20]), .un, .un, .un]) (by
      refine Eq.trans (b := Ret.ok (DL.cutD ds none (some 3)) [.im (.rol ds), .im (.lst [.int 6, .int 60, .int 200, .int 3000, .int 3, .int 20]), .un, .un, .un]) (by kernel_rfl) ?_
      rw [h])).trans (by kernel_rfl))).trans (by kernel_rfl))).trans (by kernel_rfl)))).trans ?_
  refine (congrArg resD (ret_ok (d := .bl true) (ρ1 := [.im (.rol ds), .im (.lst [.int 6, .int 60, .int 200, .int 3000, .int 3, .int 20]), .im (.lst [.non, .str "a", .tup [.int 1, .str "x"], .bl true, .int (-3), .int (a % 1000000000000), .int (b % 1000000000000)]), .un, .un]) ((bind_okL (ds := [.lst [.bl true, .bl true, .bl true, .bl true, .bl true, .bl true, .bl true]]) (ρ1 := [.im (.rol ds), .im (.lst [.int 6, .int 60, .int 200, .int 3000, .int 3, .int 20]), .im (.lst [.non, .str "a", .tup [.int 1, .str "x"], .bl true, .int (-3), .int (a % 1000000000000), .int (b % 1000000000000)]), .un, .un]) ?_).trans (by kernel_rfl)))).trans rfl
  refine Eq.trans (b := Ret.ok [D.lst [.bl true, .bl true, .bl true, .bl true, .bl true, .bl true, .bl true]] [.im (.rol ds), .im (.lst [.int 6, .int 60, .int 200, .int 3000, .int 3, .int 20]), .im (.lst [.non, .str "a", .tup [.int 1, .str "x"], .bl true, .int (-3), .int (a % 1000000000000), .int (b % 1000000000000)]), .un, .un]) ?_ rfl
  have key : ∀ (f : M D) (ρ ρ1 : Sls) (d : D), f ρ = .ok d ρ1 → (f.cons (M.ret [])) ρ = .ok [d] ρ1 := fun f ρ ρ1 d e => by
    unfold M.cons M.bind; rw [e]; rfl
  refine key _ _ _ _ ?_
  refine (bind_okL (ds := [.int 0, .int 1, .int 2, .int 3, .int 4, .int 5, .int 6]) (ρ1 := [.im (.rol ds), .im (.lst [.int 6, .int 60, .int 200, .int 3000, .int 3, .int 20]), .im (.lst [.non, .str "a", .tup [.int 1, .str "x"], .bl true, .int (-3), .int (a % 1000000000000), .int (b % 1000000000000)]), .un, .un]) (by kernel_rfl)).trans ?_
  refine (bind_okL (ds := [.bl true, .bl true, .bl true, .bl true, .bl true, .bl true, .bl true]) (ρ1 := [.im (.rol ds), .im (.lst [.int 6, .int 60, .int 200, .int 3000, .int 3, .int 20]), .im (.lst [.non, .str "a", .tup [.int 1, .str "x"], .bl true, .int (-3), .int (a % 1000000000000), .int (b % 1000000000000)]), .un, .un]) ?_).trans rfl
  refine (compL_yes (y := .bl true) (ρ1 := [.im (.rol ds), .im (.lst [.int 6, .int 60, .int 200, .int 3000, .int 3, .int 20]), .im (.lst [.non, .str "a", .tup [.int 1, .str "x"], .bl true, .int (-3), .int (a % 1000000000000), .int (b % 1000000000000)]), .un, .im (.int 0)]) (ρ2 := [.im (.rol ds), .im (.lst [.int 6, .int 60, .int 200, .int 3000, .int 3, .int 20]), .im (.lst [.non, .str "a", .tup [.int 1, .str "x"], .bl true, .int (-3), .int (a % 1000000000000), .int (b % 1000000000000)]), .un, .im (.int 0)]) (ρ3 := [.im (.rol ds), .im (.lst [.int 6, .int 60, .int 200, .int 3000, .int 3, .int 20]), .im (.lst [.non, .str "a", .tup [.int 1, .str "x"], .bl true, .int (-3), .int (a % 1000000000000), .int (b % 1000000000000)]), .un, .im (.int 0)]) (ρ4 := [.im (.rol ds), .im (.lst [.int 6, .int 60, .int 200, .int 3000, .int 3, .int 20]), .im (.lst [.non, .str "a", .tup [.int 1, .str "x"], .bl true, .int (-3), .int (a % 1000000000000), .int (b % 1000000000000)]), .un, .un]) (by kernel_rfl) (by kernel_rfl) (call_ok (ds := [.non, .int (b % 1000000000000)]) (by kernel_rfl) rfl (right_sm sm0 (small_m b))) (by kernel_rfl) (by decide)).trans ?_
  refine (compL_yes (y := .bl true) (ρ1 := [.im (.rol ds), .im (.lst [.int 6, .int 60, .int 200, .int 3000, .int 3, .int 20]), .im (.lst [.non, .str "a", .tup [.int 1, .str "x"], .bl true, .int (-3), .int (a % 1000000000000), .int (b % 1000000000000)]), .un, .im (.int 1)]) (ρ2 := [.im (.rol ds), .im (.lst [.int 6, .int 60, .int 200, .int 3000, .int 3, .int 20]), .im (.lst [.non, .str "a", .tup [.int 1, .str "x"], .bl true, .int (-3), .int (a % 1000000000000), .int (b % 1000000000000)]), .un, .im (.int 1)]) (ρ3 := [.im (.rol ds), .im (.lst [.int 6, .int 60, .int 200, .int 3000, .int 3, .int 20]), .im (.lst [.non, .str "a", .tup [.int 1, .str "x"], .bl true, .int (-3), .int (a % 1000000000000), .int (b % 1000000000000)]), .un, .im (.int 1)]) (ρ4 := [.im (.rol ds), .im (.lst [.int 6, .int 60, .int 200, .int 3000, .int 3, .int 20]), .im (.lst [.non, .str "a", .tup [.int 1, .str "x"], .bl true, .int (-3), .int (a % 1000000000000), .int (b % 1000000000000)]), .un, .un]) (by kernel_rfl) (by kernel_rfl) (call_ok (ds := [.str "a", .non]) (by kernel_rfl) rfl (right_sm sm1 sm0)) (by kernel_rfl) (by decide)).trans ?_
  refine (compL_yes (y := .bl true) (ρ1 := [.im (.rol ds), .im (.lst [.int 6, .int 60, .int 200, .int 3000, .int 3, .int 20]), .im (.lst [.non, .str "a", .tup [.int 1, .str "x"], .bl true, .int (-3), .int (a % 1000000000000), .int (b % 1000000000000)]), .un, .im (.int 2)]) (ρ2 := [.im (.rol ds), .im (.lst [.int 6, .int 60, .int 200, .int 3000, .int 3, .int 20]), .im (.lst [.non, .str "a", .tup [.int 1, .str "x"], .bl true, .int (-3), .int (a % 1000000000000), .int (b % 1000000000000)]), .un, .im (.int 2)]) (ρ3 := [.im (.rol ds), .im (.lst [.int 6, .int 60, .int 200, .int 3000, .int 3, .int 20]), .im (.lst [.non, .str "a", .tup [.int 1, .str "x"], .bl true, .int (-3), .int (a % 1000000000000), .int (b % 1000000000000)]), .un, .im (.int 2)]) (ρ4 := [.im (.rol ds), .im (.lst [.int 6, .int 60, .int 200, .int 3000, .int 3, .int 20]), .im (.lst [.non, .str "a", .tup [.int 1, .str "x"], .bl true, .int (-3), .int (a % 1000000000000), .int (b % 1000000000000)]), .un, .un]) (by kernel_rfl) (by kernel_rfl) (call_ok (ds := [.tup [.int 1, .str "x"], .str "a"]) (by kernel_rfl) rfl (right_sm sm2 sm1)) (by kernel_rfl) (by decide)).trans ?_
  refine (compL_yes (y := .bl true) (ρ1 := [.im (.rol ds), .im (.lst [.int 6, .int 60, .int 200, .int 3000, .int 3, .int 20]), .im (.lst [.non, .str "a", .tup [.int 1, .str "x"], .bl true, .int (-3), .int (a % 1000000000000), .int (b % 1000000000000)]), .un, .im (.int 3)]) (ρ2 := [.im (.rol ds), .im (.lst [.int 6, .int 60, .int 200, .int 3000, .int 3, .int 20]), .im (.lst [.non, .str "a", .tup [.int 1, .str "x"], .bl true, .int (-3), .int (a % 1000000000000), .int (b % 1000000000000)]), .un, .im (.int 3)]) (ρ3 := [.im (.rol ds), .im (.lst [.int 6, .int 60, .int 200, .int 3000, .int 3, .int 20]), .im (.lst [.non, .str "a", .tup [.int 1, .str "x"], .bl true, .int (-3), .int (a % 1000000000000), .int (b % 1000000000000)]), .un, .im (.int 3)]) (ρ4 := [.im (.rol ds), .im (.lst [.int 6, .int 60, .int 200, .int 3000, .int 3, .int 20]), .im (.lst [.non, .str "a", .tup [.int 1, .str "x"], .bl true, .int (-3), .int (a % 1000000000000), .int (b % 1000000000000)]), .un, .un]) (by kernel_rfl) (by kernel_rfl) (call_ok (ds := [.bl true, .tup [.int 1, .str "x"]]) (by kernel_rfl) rfl (right_sm sm3 sm2)) (by kernel_rfl) (by decide)).trans ?_
  refine (compL_yes (y := .bl true) (ρ1 := [.im (.rol ds), .im (.lst [.int 6, .int 60, .int 200, .int 3000, .int 3, .int 20]), .im (.lst [.non, .str "a", .tup [.int 1, .str "x"], .bl true, .int (-3), .int (a % 1000000000000), .int (b % 1000000000000)]), .un, .im (.int 4)]) (ρ2 := [.im (.rol ds), .im (.lst [.int 6, .int 60, .int 200, .int 3000, .int 3, .int 20]), .im (.lst [.non, .str "a", .tup [.int 1, .str "x"], .bl true, .int (-3), .int (a % 1000000000000), .int (b % 1000000000000)]), .un, .im (.int 4)]) (ρ3 := [.im (.rol ds), .im (.lst [.int 6, .int 60, .int 200, .int 3000, .int 3, .int 20]), .im (.lst [.non, .str "a", .tup [.int 1, .str "x"], .bl true, .int (-3), .int (a % 1000000000000), .int (b % 1000000000000)]), .un, .im (.int 4)]) (ρ4 := [.im (.rol ds), .im (.lst [.int 6, .int 60, .int 200, .int 3000, .int 3, .int 20]), .im (.lst [.non, .str "a", .tup [.int 1, .str "x"], .bl true, .int (-3), .int (a % 1000000000000), .int (b % 1000000000000)]), .un, .un]) (by kernel_rfl) (by kernel_rfl) (call_ok (ds := [.int (-3), .bl true]) (by kernel_rfl) rfl (right_sm sm4 sm3)) (by kernel_rfl) (by decide)).trans ?_
  refine (compL_yes (y := .bl true) (ρ1 := [.im (.rol ds), .im (.lst [.int 6, .int 60, .int 200, .int 3000, .int 3, .int 20]), .im (.lst [.non, .str "a", .tup [.int 1, .str "x"], .bl true, .int (-3), .int (a % 1000000000000), .int (b % 1000000000000)]), .un, .im (.int 5)]) (ρ2 := [.im (.rol ds), .im (.lst [.int 6, .int 60, .int 200, .int 3000, .int 3, .int 20]), .im (.lst [.non, .str "a", .tup [.int 1, .str "x"], .bl true, .int (-3), .int (a % 1000000000000), .int (b % 1000000000000)]), .un, .im (.int 5)]) (ρ3 := [.im (.rol ds), .im (.lst [.int 6, .int 60, .int 200, .int 3000, .int 3, .int 20]), .im (.lst [.non, .str "a", .tup [.int 1, .str "x"], .bl true, .int (-3), .int (a % 1000000000000), .int (b % 1000000000000)]), .un, .im (.int 5)]) (ρ4 := [.im (.rol ds), .im (.lst [.int 6, .int 60, .int 200, .int 3000, .int 3, .int 20]), .im (.lst [.non, .str "a", .tup [.int 1, .str "x"], .bl true, .int (-3), .int (a % 1000000000000), .int (b % 1000000000000)]), .un, .un]) (by kernel_rfl) (by kernel_rfl) (call_ok (ds := [.int (a % 1000000000000), .int (-3)]) (by kernel_rfl) rfl (right_sm (small_m a) sm4)) (by kernel_rfl) (by decide)).trans ?_
  refine (compL_yes (y := .bl true) (ρ1 := [.im (.rol ds), .im (.lst [.int 6, .int 60, .int 200, .int 3000, .int 3, .int 20]), .im (.lst [.non, .str "a", .tup [.int 1, .str "x"], .bl true, .int (-3), .int (a % 1000000000000), .int (b % 1000000000000)]), .un, .im (.int 6)]) (ρ2 := [.im (.rol ds), .im (.lst [.int 6, .int 60, .int 200, .int 3000, .int 3, .int 20]), .im (.lst [.non, .str "a", .tup [.int 1, .str "x"], .bl true, .int (-3), .int (a % 1000000000000), .int (b % 1000000000000)]), .un, .im (.int 6)]) (ρ3 := [.im (.rol ds), .im (.lst [.int 6, .int 60, .int 200, .int 3000, .int 3, .int 20]), .im (.lst [.non, .str "a", .tup [.int 1, .str "x"], .bl true, .int (-3), .int (a % 1000000000000), .int (b % 1000000000000)]), .un, .im (.int 6)]) (ρ4 := [.im (.rol ds), .im (.lst [.int 6, .int 60, .int 200, .int 3000, .int 3, .int 20]), .im (.lst [.non, .str "a", .tup [.int 1, .str "x"], .bl true, .int (-3), .int (a % 1000000000000), .int (b % 1000000000000)]), .un, .un]) (by kernel_rfl) (by kernel_rfl) (call_ok (ds := [.int (b % 1000000000000), .int (a % 1000000000000)]) (by kernel_rfl) rfl (right_sm (small_m b) (small_m a))) (by kernel_rfl) (by decide)).trans ?_
  kernel_rfl
theorem law3 (ds : List D) (a : Int) (b : Int) (c : Int) (h : DL.cutD ds none (some 3) = [.int a, .int b, .int c]) : F_law [.rol ds] = .ok (.bl true) := by
  show resD (b_law.1 [.im (.rol ds), .un, .un, .un, .un]) = _
  unfold b_law
  dsimp only
  refine (congrArg resD (seq_nx (ρ1 := [.im (.rol ds), .im (.lst [.int 6, .int 60, .int 200, .int 3000, .int 3, .int 20]), .un, .un, .un]) (by kernel_rfl))).trans ?_
  refine (congrArg resD (seq_nx (ρ1 := [.im (.rol ds), .im (.lst [.int 6, .int 60, .int 200, .int 3000, .int 3, .int 20]), .un, .un, .un]) (by kernel_rfl))).trans ?_
  refine (congrArg resD (seq_nx (ρ1 := [.im (.rol ds), .im (.lst [.int 6, .int 60, .int 200, .int 3000, .int 3, .int 20]), .im (.lst [.non, .str "a", .tup [.int 1, .str "x"], .bl true, .int (-3), .int (a % 1000000000000), .int (b % 1000000000000), .int (c % 1000000000000)]), .un, .un]) ((bind_okD (d := .lst [.non, .str "a", .tup [.int 1, .str "x"], .bl true, .int (-3), .int (a % 1000000000000), .int (b % 1000000000000), .int (c % 1000000000000)]) (ρ1 := [.im (.rol ds), .im (.lst [.int 6, .int 60, .int 200, .int 3000, .int 3, .int 20]), .un, .un, .un]) ((two_ok (d := .lst [.non, .str "a", .tup [.int 1, .str "x"], .bl true, .int (-3)]) (e := .lst [.int (a % 1000000000000), .int (b % 1000000000000), .int (c % 1000000000000)]) (ρ1 := [.im (.rol ds), .im (.lst [.int 6, .int 60, .int 200, .int 3000, .int 3, .int 20]), .un, .un, .un]) (ρ2 := [.im (.rol ds), .im (.lst [.int 6, .int 60, .int 200, .int 3000, .int 3, .int 20]), .un, .un, .un]) (by kernel_rfl) ((bind_okL (ds := [.int a, .int b, .int c]) (ρ1 := [.im (.rol ds), .im (.lst [.int 6, .int 60, .int 200, .int 3000, .int 3, .int 20]), .un, .un, .un]) (by
      refine Eq.trans (b := Ret.ok (DL.cutD ds none (some 3)) [.im (.rol ds), .im (.lst [.int 6, .int 60, .int 200, .int 3000, .int 3, .int 20]), .un, .un, .un]) (by kernel_rfl) ?_
      rw [h])).trans (by kernel_rfl))).trans (by kernel_rfl))).trans (by kernel_rfl)))).trans ?_
  refine (congrArg resD (ret_ok (d := .bl true) (ρ1 := [.im (.rol ds), .im (.lst [.int 6, .int 60, .int 200, .int 3000, .int 3, .int 20]), .im (.lst [.non, .str "a", .tup [.int 1, .str "x"], .bl true, .int (-3), .int (a % 1000000000000), .int (b % 1000000000000), .int (c % 1000000000000)]), .un, .un]) ((bind_okL (ds := [.lst [.bl true, .bl true, .bl true, .bl true, .bl true, .bl true, .bl true, .bl true]]) (ρ1 := [.im (.rol ds), .im (.lst [.int 6, .int 60, .int 200, .int 3000, .int 3, .int 20]), .im (.lst [.non, .str "a", .tup [.int 1, .str "x"], .bl true, .int (-3), .int (a % 1000000000000), .int (b % 1000000000000), .int (c % 1000000000000)]), .un, .un]) ?_).trans (by kernel_rfl)))).trans rfl
  refine Eq.trans (b := Ret.ok [D.lst [.bl true, .bl true, .bl true, .bl true, .bl true, .bl true, .bl true, .bl true]] [.im (.rol ds), .im (.lst [.int 6, .int 60, .int 200, .int 3000, .int 3, .int 20]), .im (.lst [.non, .str "a", .tup [.int 1, .str "x"], .bl true, .int (-3), .int (a % 1000000000000), .int (b % 1000000000000), .int (c % 1000000000000)]), .un, .un]) ?_ rfl
  have key : ∀ (f : M D) (ρ ρ1 : Sls) (d : D), f ρ = .ok d ρ1 → (f.cons (M.ret [])) ρ = .ok [d] ρ1 := fun f ρ ρ1 d e => by
    unfold M.cons M.bind; rw [e]; rfl
  refine key _ _ _ _ ?_
  refine (bind_okL (ds := [.int 0, .int 1, .int 2, .int 3, .int 4, .int 5, .int 6, .int 7]) (ρ1 := [.im (.rol ds), .im (.lst [.int 6, .int 60, .int 200, .int 3000, .int 3, .int 20]), .im (.lst [.non, .str "a", .tup [.int 1, .str "x"], .bl true, .int (-3), .int (a % 1000000000000), .int (b % 1000000000000), .int (c % 1000000000000)]), .un, .un]) (by kernel_rfl)).trans ?_
  refine (bind_okL (ds := [.bl true, .bl true, .bl true, .bl true, .bl true, .bl true, .bl true, .bl true]) (ρ1 := [.im (.rol ds), .im (.lst [.int 6, .int 60, .int 200, .int 3000, .int 3, .int 20]), .im (.lst [.non, .str "a", .tup [.int 1, .str "x"], .bl true, .int (-3), .int (a % 1000000000000), .int (b % 1000000000000), .int (c % 1000000000000)]), .un, .un]) ?_).trans rfl
  refine (compL_yes (y := .bl true) (ρ1 := [.im (.rol ds), .im (.lst [.int 6, .int 60, .int 200, .int 3000, .int 3, .int 20]), .im (.lst [.non, .str "a", .tup [.int 1, .str "x"], .bl true, .int (-3), .int (a % 1000000000000), .int (b % 1000000000000), .int (c % 1000000000000)]), .un, .im (.int 0)]) (ρ2 := [.im (.rol ds), .im (.lst [.int 6, .int 60, .int 200, .int 3000, .int 3, .int 20]), .im (.lst [.non, .str "a", .tup [.int 1, .str "x"], .bl true, .int (-3), .int (a % 1000000000000), .int (b % 1000000000000), .int (c % 1000000000000)]), .un, .im (.int 0)]) (ρ3 := [.im (.rol ds), .im (.lst [.int 6, .int 60, .int 200, .int 3000, .int 3, .int 20]), .im (.lst [.non, .str "a", .tup [.int 1, .str "x"], .bl true, .int (-3), .int (a % 1000000000000), .int (b % 1000000000000), .int (c % 1000000000000)]), .un, .im (.int 0)]) (ρ4 := [.im (.rol ds), .im (.lst [.int 6, .int 60, .int 200, .int 3000, .int 3, .int 20]), .im (.lst [.non, .str "a", .tup [.int 1, .str "x"], .bl true, .int (-3), .int (a % 1000000000000), .int (b % 1000000000000), .int (c % 1000000000000)]), .un, .un]) (by kernel_rfl) (by kernel_rfl) (call_ok (ds := [.non, .int (c % 1000000000000)]) (by kernel_rfl) rfl (right_sm sm0 (small_m c))) (by kernel_rfl) (by decide)).trans ?_
  refine (compL_yes (y := .bl true) (ρ1 := [.im (.rol ds), .im (.lst [.int 6, .int 60, .int 200, .int 3000, .int 3, .int 20]), .im (.lst [.non, .str "a", .tup [.int 1, .str "x"], .bl true, .int (-3), .int (a % 1000000000000), .int (b % 1000000000000), .int (c % 1000000000000)]), .un, .im (.int 1)]) (ρ2 := [.im (.rol ds), .im (.lst [.int 6, .int 60, .int 200, .int 3000, .int 3, .int 20]), .im (.lst [.non, .str "a", .tup [.int 1, .str "x"], .bl true, .int (-3), .int (a % 1000000000000), .int (b % 1000000000000), .int (c % 1000000000000)]), .un, .im (.int 1)]) (ρ3 := [.im (.rol ds), .im (.lst [.int 6, .int 60, .int 200, .int 3000, .int 3, .int 20]), .im (.lst [.non, .str "a", .tup [.int 1, .str "x"], .bl true, .int (-3), .int (a % 1000000000000), .int (b % 1000000000000), .int (c % 1000000000000)]), .un, .im (.int 1)]) (ρ4 := [.im (.rol ds), .im (.lst [.int 6, .int 60, .int 200, .int 3000, .int 3, .int 20]), .im (.lst [.non, .str "a", .tup [.int 1, .str "x"], .bl true, .int (-3), .int (a % 1000000000000), .int (b % 1000000000000), .int (c % 1000000000000)]), .un, .un]) (by kernel_rfl) (by kernel_rfl) (call_ok (ds := [.str "a", .non]) (by kernel_rfl) rfl (right_sm sm1 sm0)) (by kernel_rfl) (by decide)).trans ?_
  refine (compL_yes (y := .bl true) (ρ1 := [.im (.rol ds), .im (.lst [.int 6, .int 60, .int 200, .int 3000, .int 3, .int 20]), .im (.lst [.non, .str "a", .tup [.int 1, .str "x"], .bl true, .int (-3), .int (a % 1000000000000), .int (b % 1000000000000), .int (c % 1000000000000)]), .un, .im (.int 2)]) (ρ2 := [.im (.rol ds), .im (.lst [.int 6, .int 60, .int 200, .int 3000, .int 3, .int 20]), .im (.lst [.non, .str "a", .tup [.int 1, .str "x"], .bl true, .int (-3), .int (a % 1000000000000), .int (b % 1000000000000), .int (c % 1000000000000)]), .un, .im (.int 2)]) (ρ3 := [.im (.rol ds), .im (.lst [.int 6, .int 60, .int 200, .int 3000, .int 3, .int 20]), .im (.lst [.non, .str "a", .tup [.int 1, .str "x"], .bl true, .int (-3), .int (a % 1000000000000), .int (b % 1000000000000), .int (c % 1000000000000)]), .un, .im (.int 2)]) (ρ4 := [.im (.rol ds), .im (.lst [.int 6, .int 60, .int 200, .int 3000, .int 3, .int 20]), .im (.lst [.non, .str "a", .tup [.int 1, .str "x"], .bl true, .int (-3), .int (a % 1000000000000), .int (b % 1000000000000), .int (c % 1000000000000)]), .un, .un]) (by kernel_rfl) (by kernel_rfl) (call_ok (ds := [.tup [.int 1, .str "x"], .str "a"]) (by kernel_rfl) rfl (right_sm sm2 sm1)) (by kernel_rfl) (by decide)).trans ?_
  refine (compL_yes (y := .bl true) (ρ1 := [.im (.rol ds), .im (.lst [.int 6, .int 60, .int 200, .int 3000, .int 3, .int 20]), .im (.lst [.non, .str "a", .tup [.int 1, .str "x"], .bl true, .int (-3), .int (a % 1000000000000), .int (b % 1000000000000), .int (c % 1000000000000)]), .un, .im (.int 3)]) (ρ2 := [.im (.rol ds), .im (.lst [.int 6, .int 60, .int 200, .int 3000, .int 3, .int 20]), .im (.lst [.non, .str "a", .tup [.int 1, .str "x"], .bl true, .int (-3), .int (a % 1000000000000), .int (b % 1000000000000), .int (c % 1000000000000)]), .un, .im (.int 3)]) (ρ3 := [.im (.rol ds), .im (.lst [.int 6, .int 60, .int 200, .int 3000, .int 3, .int 20]), .im (.lst [.non, .str "a", .tup [.int 1, .str "x"], .bl true, .int (-3), .int (a % 1000000000000), .int (b % 1000000000000), .int (c % 1000000000000)]), .un, .im (.int 3)]) (ρ4 := [.im (.rol ds), .im (.lst [.int 6, .int 60, .int 200, .int 3000, .int 3, .int 20]), .im (.lst [.non, .str "a", .tup [.int 1, .str "x"], .bl true, .int (-3), .int (a % 1000000000000), .int (b % 1000000000000), .int (c % 1000000000000)]), .un, .un]) (by kernel_rfl) (by kernel_rfl) (call_ok (ds := [.bl true, .tup [.int 1, .str "x"]]) (by kernel_rfl) rfl (right_sm sm3 sm2)) (by kernel_rfl) (by decide)).trans ?_
  refine (compL_yes (y := .bl true) (ρ1 := [.im (.rol ds), .im (.lst [.int 6, .int 60, .int 200, .int 3000, .int 3, .int 20]), .im (.lst [.non, .str "a", .tup [.int 1, .str "x"], .bl true, .int (-3), .int (a % 1000000000000), .int (b % 1000000000000), .int (c % 1000000000000)]), .un, .im (.int 4)]) (ρ2 := [.im (.rol ds), .im (.lst [.int 6, .int 60, .int 200, .int 3000, .int 3, .int 20]), .im (.lst [.non, .str "a", .tup [.int 1, .str "x"], .bl true, .int (-3), .int (a % 1000000000000), .int (b % 1000000000000), .int (c % 1000000000000)]), .un, .im (.int 4)]) (ρ3 := [.im (.rol ds), .im (.lst [.int 6, .int 60, .int 200, .int 3000, .int 3, .int 20]), .im (.lst [.non, .str "a", .tup [.int 1, .str "x"], .bl true, .int (-3), .int (a % 1000000000000), .int (b % 1000000000000), .int (c % 1000000000000)]), .un, .im (.int 4)]) (ρ4 := [.im (.rol ds), .im (.lst [.int 6, .int 60, .int 200, .int 3000, .int 3, .int 20]), .im (.lst [.non, .str "a", .tup [.int 1, .str "x"], .bl true, .int (-3), .int (a % 1000000000000), .int (b % 1000000000000), .int (c % 1000000000000)]), .un, .un]) (by kernel_rfl) (by kernel_rfl) (call_ok (ds := [.int (-3), .bl true]) (by kernel_rfl) rfl (right_sm sm4 sm3)) (by kernel_rfl) (by decide)).trans ?_
  refine (compL_yes (y := .bl true) (ρ1 := [.im (.rol ds), .im (.lst [.int 6, .int 60, .int 200, .int 3000, .int 3, .int 20]), .im (.lst [.non, .str "a", .tup [.int 1, .str "x"], .bl true, .int (-3), .int (a % 1000000000000), .int (b % 1000000000000), .int (c % 1000000000000)]), .un, .im (.int 5)]) (ρ2 := [.im (.rol ds), .im (.lst [.int 6, .int 60, .int 200, .int 3000, .int 3, .int 20]), .im (.lst [.non, .str "a", .tup [.int 1, .str "x"], .bl true, .int (-3), .int (a % 1000000000000), .int (b % 1000000000000), .int (c % 1000000000000)]), .un, .im (.int 5)]) (ρ3 := [.im (.rol ds), .im (.lst [.int 6, .int 60, .int 200, .int 3000, .int 3, .int 20]), .im (.lst [.non, .str "a", .tup [.int 1, .str "x"], .bl true, .int (-3), .int (a % 1000000000000), .int (b % 1000000000000), .int (c % 1000000000000)]), .un, .im (.int 5)]) (ρ4 := [.im (.rol ds), .im (.lst [.int 6, .int 60, .int 200, .int 3000, .int 3, .int 20]), .im (.lst [.non, .str "a", .tup [.int 1, .str "x"], .bl true, .int (-3), .int (a % 1000000000000), .int (b % 1000000000000), .int (c % 1000000000000)]), .un, .un]) (by kernel_rfl) (by kernel_rfl) (call_ok (ds := [.int (a % 1000000000000), .int (-3)]) (by kernel_rfl) rfl (right_sm (small_m a) sm4)) (by kernel_rfl) (by decide)).trans ?_
  refine (compL_yes (y := .bl true) (ρ1 := [.im (.rol ds), .im (.lst [.int 6, .int 60, .int 200, .int 3000, .int 3, .int 20]), .im (.lst [.non, .str "a", .tup [.int 1, .str "x"], .bl true, .int (-3), .int (a % 1000000000000), .int (b % 1000000000000), .int (c % 1000000000000)]), .un, .im (.int 6)]) (ρ2 := [.im (.rol ds), .im (.lst [.int 6, .int 60, .int 200, .int 3000, .int 3, .int 20]), .im (.lst [.non, .str "a", .tup [.int 1, .str "x"], .bl true, .int (-3), .int (a % 1000000000000), .int (b % 1000000000000), .int (c % 1000000000000)]), .un, .im (.int 6)]) (ρ3 := [.im (.rol ds), .im (.lst [.int 6, .int 60, .int 200, .int 3000, .int 3, .int 20]), .im (.lst [.non, .str "a", .tup [.int 1, .str "x"], .bl true, .int (-3), .int (a % 1000000000000), .int (b % 1000000000000), .int (c % 1000000000000)]), .un, .im (.int 6)]) (ρ4 := [.im (.rol ds), .im (.lst [.int 6, .int 60, .int 200, .int 3000, .int 3, .int 20]), .im (.lst [.non, .str "a", .tup [.int 1, .str "x"], .bl true, .int (-3), .int (a % 1000000000000), .int (b % 1000000000000), .int (c % 1000000000000)]), .un, .un]) (by kernel_rfl) (by kernel_rfl) (call_ok (ds := [.int (b % 1000000000000), .int (a % 1000000000000)]) (by kernel_rfl) rfl (right_sm (small_m b) (small_m a))) (by kernel_rfl) (by decide)).trans ?_
  refine (compL_yes (y := .bl true) (ρ1 := [.im (.rol ds), .im (.lst [.int 6, .int 60, .int 200, .int 3000, .int 3, .int 20]), .im (.lst [.non, .str "a", .tup [.int 1, .str "x"], .bl true, .int (-3), .int (a % 1000000000000), .int (b % 1000000000000), .int (c % 1000000000000)]), .un, .im (.int 7)]) (ρ2 := [.im (.rol ds), .im (.lst [.int 6, .int 60, .int 200, .int 3000, .int 3, .int 20]), .im (.lst [.non, .str "a", .tup [.int 1, .str "x"], .bl true, .int (-3), .int (a % 1000000000000), .int (b % 1000000000000), .int (c % 1000000000000)]), .un, .im (.int 7)]) (ρ3 := [.im (.rol ds), .im (.lst [.int 6, .int 60, .int 200, .int 3000, .int 3, .int 20]), .im (.lst [.non, .str "a", .tup [.int 1, .str "x"], .bl true, .int (-3), .int (a % 1000000000000), .int (b % 1000000000000), .int (c % 1000000000000)]), .un, .im (.int 7)]) (ρ4 := [.im (.rol ds), .im (.lst [.int 6, .int 60, .int 200, .int 3000, .int 3, .int 20]), .im (.lst [.non, .str "a", .tup [.int 1, .str "x"], .bl true, .int (-3), .int (a % 1000000000000), .int (b % 1000000000000), .int (c % 1000000000000)]), .un, .un]) (by kernel_rfl) (by kernel_rfl) (call_ok (ds := [.int (c % 1000000000000), .int (b % 1000000000000)]) (by kernel_rfl) rfl (right_sm (small_m c) (small_m b))) (by kernel_rfl) (by decide)).trans ?_
  kernel_rfl
theorem law_true (ns : List Int) : F_law [.rol (ns.map .int)] = .ok (.bl true) := by
  match ns with
  | [] => exact law0 _ (by rw [cut3]; rfl)
  | [a] => exact law1 _ a (by rw [cut3]; rfl)
  | [a, b] => exact law2 _ a b (by rw [cut3]; rfl)
  | a :: b :: c :: r => exact law3 _ a b c (by rw [cut3]; rfl)
end KX

set_option Elab.async false
open PySem PySem.W PyProof.Rows
set_option maxRecDepth 100000 in
set_option maxHeartbeats 0 in
open_top hd for PySem.Challenge.rw_braidwords_k01_limits_and_errors

set_option Elab.async false
set_option linter.all false
set_option maxRecDepth 100000
set_option maxHeartbeats 0
open PySem PySem.W PyProof.Rows
theorem KX.v_x_InvalidText (w : World) (mg : Str → Option Value) (h : Heap) (Kin : (hd.heap_39 w.params).In h) (G : h.Ns mainGlobals mg) : DL.XcB (PySem.Challenge.rw_braidwords_k01_limits_and_errors).prog w (hd.heap_39 w.params) mg h "InvalidText" 1 (DL.fD1 "given") ∧ DL.XkB (PySem.Challenge.rw_braidwords_k01_limits_and_errors).prog w (hd.heap_39 w.params) mg h "InvalidText" 1 ["given"] [0] (DL.fD1 "given") := by
      refine' DL.xck1_of (st := (DL.metOf PySem.Challenge.pw_braidwords_k01_limits_and_errors 2 0)) (PySem.W.mg_of Kin G ?aC) (DL.xcls_of DL.xb_Value ?q ?ov ?sa ?iC ?tI ?kC ?ga ?gg ?ex ?hd) ?ty ?hno ?lk ?c ?k ?S ?hb ?hbd ?hbk ?hs ?hc
      (case aC => k_is); (case iC => k_is); (case q => kx_is); (case ov => kx_is); (case sa => k_is); (case tI => k_is); (case kC => k_is); (case ga => k_is); (case gg => k_is); (case ex => k_is); (case hd => k_is); (case ty => k_is)
      (case hno => k_is)
      (case lk => k_is); (case c => k_is); (case k => k_is)
      (case S => exact ⟨by kernel_rfl, by kernel_rfl, by kernel_rfl, by decide, rfl, by decide +kernel, by decide +kernel⟩)
      (case hb => rfl)
      (case hbd => intro kV doc pm an cdv ct us hl; match us, hl with | [a, b], _ => rfl)
      (case hbk => intro kV doc pm an cdv ct us ws hl hl2; match us, ws, hl, hl2 with | [a], [b], _, _ => rfl)
      (case hs => decide); (case hc => decide)
theorem KX.v_x_InvalidNumber (w : World) (mg : Str → Option Value) (h : Heap) (Kin : (hd.heap_39 w.params).In h) (G : h.Ns mainGlobals mg) : DL.XcB (PySem.Challenge.rw_braidwords_k01_limits_and_errors).prog w (hd.heap_39 w.params) mg h "InvalidNumber" 1 (DL.fD1 "given") ∧ DL.XkB (PySem.Challenge.rw_braidwords_k01_limits_and_errors).prog w (hd.heap_39 w.params) mg h "InvalidNumber" 1 ["given"] [0] (DL.fD1 "given") := by
      refine' DL.xck1_of (st := (DL.metOf PySem.Challenge.pw_braidwords_k01_limits_and_errors 3 0)) (PySem.W.mg_of Kin G ?aC) (DL.xcls_of DL.xb_Value ?q ?ov ?sa ?iC ?tI ?kC ?ga ?gg ?ex ?hd) ?ty ?hno ?lk ?c ?k ?S ?hb ?hbd ?hbk ?hs ?hc
      (case aC => k_is); (case iC => k_is); (case q => kx_is); (case ov => kx_is); (case sa => k_is); (case tI => k_is); (case kC => k_is); (case ga => k_is); (case gg => k_is); (case ex => k_is); (case hd => k_is); (case ty => k_is)
      (case hno => k_is)
      (case lk => k_is); (case c => k_is); (case k => k_is)
      (case S => exact ⟨by kernel_rfl, by kernel_rfl, by kernel_rfl, by decide, rfl, by decide +kernel, by decide +kernel⟩)
      (case hb => rfl)
      (case hbd => intro kV doc pm an cdv ct us hl; match us, hl with | [a, b], _ => rfl)
      (case hbk => intro kV doc pm an cdv ct us ws hl hl2; match us, ws, hl, hl2 with | [a], [b], _, _ => rfl)
      (case hs => decide); (case hc => decide)
theorem KX.v_x_InvalidName (w : World) (mg : Str → Option Value) (h : Heap) (Kin : (hd.heap_39 w.params).In h) (G : h.Ns mainGlobals mg) : DL.XcB (PySem.Challenge.rw_braidwords_k01_limits_and_errors).prog w (hd.heap_39 w.params) mg h "InvalidName" 1 (DL.fD1 "given") ∧ DL.XkB (PySem.Challenge.rw_braidwords_k01_limits_and_errors).prog w (hd.heap_39 w.params) mg h "InvalidName" 1 ["given"] [0] (DL.fD1 "given") := by
      refine' DL.xck1_of (st := (DL.metOf PySem.Challenge.pw_braidwords_k01_limits_and_errors 4 0)) (PySem.W.mg_of Kin G ?aC) (DL.xcls_of DL.xb_Value ?q ?ov ?sa ?iC ?tI ?kC ?ga ?gg ?ex ?hd) ?ty ?hno ?lk ?c ?k ?S ?hb ?hbd ?hbk ?hs ?hc
      (case aC => k_is); (case iC => k_is); (case q => kx_is); (case ov => kx_is); (case sa => k_is); (case tI => k_is); (case kC => k_is); (case ga => k_is); (case gg => k_is); (case ex => k_is); (case hd => k_is); (case ty => k_is)
      (case hno => k_is)
      (case lk => k_is); (case c => k_is); (case k => k_is)
      (case S => exact ⟨by kernel_rfl, by kernel_rfl, by kernel_rfl, by decide, rfl, by decide +kernel, by decide +kernel⟩)
      (case hb => rfl)
      (case hbd => intro kV doc pm an cdv ct us hl; match us, hl with | [a, b], _ => rfl)
      (case hbk => intro kV doc pm an cdv ct us ws hl hl2; match us, ws, hl, hl2 with | [a], [b], _, _ => rfl)
      (case hs => decide); (case hc => decide)
theorem KX.v_x_InvalidIndex (w : World) (mg : Str → Option Value) (h : Heap) (Kin : (hd.heap_39 w.params).In h) (G : h.Ns mainGlobals mg) : DL.XcB (PySem.Challenge.rw_braidwords_k01_limits_and_errors).prog w (hd.heap_39 w.params) mg h "InvalidIndex" 1 (DL.fD1 "given") ∧ DL.XkB (PySem.Challenge.rw_braidwords_k01_limits_and_errors).prog w (hd.heap_39 w.params) mg h "InvalidIndex" 1 ["given"] [0] (DL.fD1 "given") := by
      refine' DL.xck1_of (st := (DL.metOf PySem.Challenge.pw_braidwords_k01_limits_and_errors 5 0)) (PySem.W.mg_of Kin G ?aC) (DL.xcls_of DL.xb_Value ?q ?ov ?sa ?iC ?tI ?kC ?ga ?gg ?ex ?hd) ?ty ?hno ?lk ?c ?k ?S ?hb ?hbd ?hbk ?hs ?hc
      (case aC => k_is); (case iC => k_is); (case q => kx_is); (case ov => kx_is); (case sa => k_is); (case tI => k_is); (case kC => k_is); (case ga => k_is); (case gg => k_is); (case ex => k_is); (case hd => k_is); (case ty => k_is)
      (case hno => k_is)
      (case lk => k_is); (case c => k_is); (case k => k_is)
      (case S => exact ⟨by kernel_rfl, by kernel_rfl, by kernel_rfl, by decide, rfl, by decide +kernel, by decide +kernel⟩)
      (case hb => rfl)
      (case hbd => intro kV doc pm an cdv ct us hl; match us, hl with | [a, b], _ => rfl)
      (case hbk => intro kV doc pm an cdv ct us ws hl hl2; match us, ws, hl, hl2 with | [a], [b], _, _ => rfl)
      (case hs => decide); (case hc => decide)
theorem KX.v_x_InvalidWord (w : World) (mg : Str → Option Value) (h : Heap) (Kin : (hd.heap_39 w.params).In h) (G : h.Ns mainGlobals mg) : DL.XcB (PySem.Challenge.rw_braidwords_k01_limits_and_errors).prog w (hd.heap_39 w.params) mg h "InvalidWord" 1 (DL.fD1 "given") ∧ DL.XkB (PySem.Challenge.rw_braidwords_k01_limits_and_errors).prog w (hd.heap_39 w.params) mg h "InvalidWord" 1 ["given"] [0] (DL.fD1 "given") := by
      refine' DL.xck1_of (st := (DL.metOf PySem.Challenge.pw_braidwords_k01_limits_and_errors 6 0)) (PySem.W.mg_of Kin G ?aC) (DL.xcls_of DL.xb_Value ?q ?ov ?sa ?iC ?tI ?kC ?ga ?gg ?ex ?hd) ?ty ?hno ?lk ?c ?k ?S ?hb ?hbd ?hbk ?hs ?hc
      (case aC => k_is); (case iC => k_is); (case q => kx_is); (case ov => kx_is); (case sa => k_is); (case tI => k_is); (case kC => k_is); (case ga => k_is); (case gg => k_is); (case ex => k_is); (case hd => k_is); (case ty => k_is)
      (case hno => k_is)
      (case lk => k_is); (case c => k_is); (case k => k_is)
      (case S => exact ⟨by kernel_rfl, by kernel_rfl, by kernel_rfl, by decide, rfl, by decide +kernel, by decide +kernel⟩)
      (case hb => rfl)
      (case hbd => intro kV doc pm an cdv ct us hl; match us, hl with | [a, b], _ => rfl)
      (case hbk => intro kV doc pm an cdv ct us ws hl hl2; match us, ws, hl, hl2 with | [a], [b], _, _ => rfl)
      (case hs => decide); (case hc => decide)
theorem KX.v_x_InvalidLetter (w : World) (mg : Str → Option Value) (h : Heap) (Kin : (hd.heap_39 w.params).In h) (G : h.Ns mainGlobals mg) : DL.XcB (PySem.Challenge.rw_braidwords_k01_limits_and_errors).prog w (hd.heap_39 w.params) mg h "InvalidLetter" 1 (DL.fD1 "given") ∧ DL.XkB (PySem.Challenge.rw_braidwords_k01_limits_and_errors).prog w (hd.heap_39 w.params) mg h "InvalidLetter" 1 ["given"] [0] (DL.fD1 "given") := by
      refine' DL.xck1_of (st := (DL.metOf PySem.Challenge.pw_braidwords_k01_limits_and_errors 7 0)) (PySem.W.mg_of Kin G ?aC) (DL.xcls_of DL.xb_Value ?q ?ov ?sa ?iC ?tI ?kC ?ga ?gg ?ex ?hd) ?ty ?hno ?lk ?c ?k ?S ?hb ?hbd ?hbk ?hs ?hc
      (case aC => k_is); (case iC => k_is); (case q => kx_is); (case ov => kx_is); (case sa => k_is); (case tI => k_is); (case kC => k_is); (case ga => k_is); (case gg => k_is); (case ex => k_is); (case hd => k_is); (case ty => k_is)
      (case hno => k_is)
      (case lk => k_is); (case c => k_is); (case k => k_is)
      (case S => exact ⟨by kernel_rfl, by kernel_rfl, by kernel_rfl, by decide, rfl, by decide +kernel, by decide +kernel⟩)
      (case hb => rfl)
      (case hbd => intro kV doc pm an cdv ct us hl; match us, hl with | [a, b], _ => rfl)
      (case hbk => intro kV doc pm an cdv ct us ws hl hl2; match us, ws, hl, hl2 with | [a], [b], _, _ => rfl)
      (case hs => decide); (case hc => decide)
theorem KX.v_x_InvalidLot (w : World) (mg : Str → Option Value) (h : Heap) (Kin : (hd.heap_39 w.params).In h) (G : h.Ns mainGlobals mg) : DL.XcB (PySem.Challenge.rw_braidwords_k01_limits_and_errors).prog w (hd.heap_39 w.params) mg h "InvalidLot" 1 (DL.fD1 "given") ∧ DL.XkB (PySem.Challenge.rw_braidwords_k01_limits_and_errors).prog w (hd.heap_39 w.params) mg h "InvalidLot" 1 ["given"] [0] (DL.fD1 "given") := by
      refine' DL.xck1_of (st := (DL.metOf PySem.Challenge.pw_braidwords_k01_limits_and_errors 8 0)) (PySem.W.mg_of Kin G ?aC) (DL.xcls_of DL.xb_Value ?q ?ov ?sa ?iC ?tI ?kC ?ga ?gg ?ex ?hd) ?ty ?hno ?lk ?c ?k ?S ?hb ?hbd ?hbk ?hs ?hc
      (case aC => k_is); (case iC => k_is); (case q => kx_is); (case ov => kx_is); (case sa => k_is); (case tI => k_is); (case kC => k_is); (case ga => k_is); (case gg => k_is); (case ex => k_is); (case hd => k_is); (case ty => k_is)
      (case hno => k_is)
      (case lk => k_is); (case c => k_is); (case k => k_is)
      (case S => exact ⟨by kernel_rfl, by kernel_rfl, by kernel_rfl, by decide, rfl, by decide +kernel, by decide +kernel⟩)
      (case hb => rfl)
      (case hbd => intro kV doc pm an cdv ct us hl; match us, hl with | [a, b], _ => rfl)
      (case hbk => intro kV doc pm an cdv ct us ws hl hl2; match us, ws, hl, hl2 with | [a], [b], _, _ => rfl)
      (case hs => decide); (case hc => decide)
theorem KX.v_x_InvalidClaim (w : World) (mg : Str → Option Value) (h : Heap) (Kin : (hd.heap_39 w.params).In h) (G : h.Ns mainGlobals mg) : DL.XcB (PySem.Challenge.rw_braidwords_k01_limits_and_errors).prog w (hd.heap_39 w.params) mg h "InvalidClaim" 1 (DL.fD1 "given") ∧ DL.XkB (PySem.Challenge.rw_braidwords_k01_limits_and_errors).prog w (hd.heap_39 w.params) mg h "InvalidClaim" 1 ["given"] [0] (DL.fD1 "given") := by
      refine' DL.xck1_of (st := (DL.metOf PySem.Challenge.pw_braidwords_k01_limits_and_errors 9 0)) (PySem.W.mg_of Kin G ?aC) (DL.xcls_of DL.xb_Value ?q ?ov ?sa ?iC ?tI ?kC ?ga ?gg ?ex ?hd) ?ty ?hno ?lk ?c ?k ?S ?hb ?hbd ?hbk ?hs ?hc
      (case aC => k_is); (case iC => k_is); (case q => kx_is); (case ov => kx_is); (case sa => k_is); (case tI => k_is); (case kC => k_is); (case ga => k_is); (case gg => k_is); (case ex => k_is); (case hd => k_is); (case ty => k_is)
      (case hno => k_is)
      (case lk => k_is); (case c => k_is); (case k => k_is)
      (case S => exact ⟨by kernel_rfl, by kernel_rfl, by kernel_rfl, by decide, rfl, by decide +kernel, by decide +kernel⟩)
      (case hb => rfl)
      (case hbd => intro kV doc pm an cdv ct us hl; match us, hl with | [a, b], _ => rfl)
      (case hbk => intro kV doc pm an cdv ct us ws hl hl2; match us, ws, hl, hl2 with | [a], [b], _, _ => rfl)
      (case hs => decide); (case hc => decide)
theorem KX.v_x_InvalidCommand (w : World) (mg : Str → Option Value) (h : Heap) (Kin : (hd.heap_39 w.params).In h) (G : h.Ns mainGlobals mg) : DL.XcB (PySem.Challenge.rw_braidwords_k01_limits_and_errors).prog w (hd.heap_39 w.params) mg h "InvalidCommand" 1 (DL.fD1 "given") ∧ DL.XkB (PySem.Challenge.rw_braidwords_k01_limits_and_errors).prog w (hd.heap_39 w.params) mg h "InvalidCommand" 1 ["given"] [0] (DL.fD1 "given") := by
      refine' DL.xck1_of (st := (DL.metOf PySem.Challenge.pw_braidwords_k01_limits_and_errors 10 0)) (PySem.W.mg_of Kin G ?aC) (DL.xcls_of DL.xb_Value ?q ?ov ?sa ?iC ?tI ?kC ?ga ?gg ?ex ?hd) ?ty ?hno ?lk ?c ?k ?S ?hb ?hbd ?hbk ?hs ?hc
      (case aC => k_is); (case iC => k_is); (case q => kx_is); (case ov => kx_is); (case sa => k_is); (case tI => k_is); (case kC => k_is); (case ga => k_is); (case gg => k_is); (case ex => k_is); (case hd => k_is); (case ty => k_is)
      (case hno => k_is)
      (case lk => k_is); (case c => k_is); (case k => k_is)
      (case S => exact ⟨by kernel_rfl, by kernel_rfl, by kernel_rfl, by decide, rfl, by decide +kernel, by decide +kernel⟩)
      (case hb => rfl)
      (case hbd => intro kV doc pm an cdv ct us hl; match us, hl with | [a, b], _ => rfl)
      (case hbk => intro kV doc pm an cdv ct us ws hl hl2; match us, ws, hl, hl2 with | [a], [b], _, _ => rfl)
      (case hs => decide); (case hc => decide)
theorem KX.v_x_NotMirrors (w : World) (mg : Str → Option Value) (h : Heap) (Kin : (hd.heap_39 w.params).In h) (G : h.Ns mainGlobals mg) : DL.XcB (PySem.Challenge.rw_braidwords_k01_limits_and_errors).prog w (hd.heap_39 w.params) mg h "NotMirrors" 1 (DL.fD1 "given") ∧ DL.XkB (PySem.Challenge.rw_braidwords_k01_limits_and_errors).prog w (hd.heap_39 w.params) mg h "NotMirrors" 1 ["given"] [0] (DL.fD1 "given") := by
      refine' DL.xck1_of (st := (DL.metOf PySem.Challenge.pw_braidwords_k01_limits_and_errors 11 0)) (PySem.W.mg_of Kin G ?aC) (DL.xcls_of DL.xb_Value ?q ?ov ?sa ?iC ?tI ?kC ?ga ?gg ?ex ?hd) ?ty ?hno ?lk ?c ?k ?S ?hb ?hbd ?hbk ?hs ?hc
      (case aC => k_is); (case iC => k_is); (case q => kx_is); (case ov => kx_is); (case sa => k_is); (case tI => k_is); (case kC => k_is); (case ga => k_is); (case gg => k_is); (case ex => k_is); (case hd => k_is); (case ty => k_is)
      (case hno => k_is)
      (case lk => k_is); (case c => k_is); (case k => k_is)
      (case S => exact ⟨by kernel_rfl, by kernel_rfl, by kernel_rfl, by decide, rfl, by decide +kernel, by decide +kernel⟩)
      (case hb => rfl)
      (case hbd => intro kV doc pm an cdv ct us hl; match us, hl with | [a, b], _ => rfl)
      (case hbk => intro kV doc pm an cdv ct us ws hl hl2; match us, ws, hl, hl2 with | [a], [b], _, _ => rfl)
      (case hs => decide); (case hc => decide)
theorem KX.v_x_InvalidAngles (w : World) (mg : Str → Option Value) (h : Heap) (Kin : (hd.heap_39 w.params).In h) (G : h.Ns mainGlobals mg) : DL.XcB (PySem.Challenge.rw_braidwords_k01_limits_and_errors).prog w (hd.heap_39 w.params) mg h "InvalidAngles" 1 (DL.fD1 "index") ∧ DL.XkB (PySem.Challenge.rw_braidwords_k01_limits_and_errors).prog w (hd.heap_39 w.params) mg h "InvalidAngles" 1 ["index"] [0] (DL.fD1 "index") := by
      refine' DL.xck1_of (st := (DL.metOf PySem.Challenge.pw_braidwords_k01_limits_and_errors 12 0)) (PySem.W.mg_of Kin G ?aC) (DL.xcls_of DL.xb_Value ?q ?ov ?sa ?iC ?tI ?kC ?ga ?gg ?ex ?hd) ?ty ?hno ?lk ?c ?k ?S ?hb ?hbd ?hbk ?hs ?hc
      (case aC => k_is); (case iC => k_is); (case q => kx_is); (case ov => kx_is); (case sa => k_is); (case tI => k_is); (case kC => k_is); (case ga => k_is); (case gg => k_is); (case ex => k_is); (case hd => k_is); (case ty => k_is)
      (case hno => k_is)
      (case lk => k_is); (case c => k_is); (case k => k_is)
      (case S => exact ⟨by kernel_rfl, by kernel_rfl, by kernel_rfl, by decide, rfl, by decide +kernel, by decide +kernel⟩)
      (case hb => rfl)
      (case hbd => intro kV doc pm an cdv ct us hl; match us, hl with | [a, b], _ => rfl)
      (case hbk => intro kV doc pm an cdv ct us ws hl hl2; match us, ws, hl, hl2 with | [a], [b], _, _ => rfl)
      (case hs => decide); (case hc => decide)
theorem KX.v_x_InvalidRow (w : World) (mg : Str → Option Value) (h : Heap) (Kin : (hd.heap_39 w.params).In h) (G : h.Ns mainGlobals mg) : DL.XcB (PySem.Challenge.rw_braidwords_k01_limits_and_errors).prog w (hd.heap_39 w.params) mg h "InvalidRow" 1 (DL.fD1 "index") ∧ DL.XkB (PySem.Challenge.rw_braidwords_k01_limits_and_errors).prog w (hd.heap_39 w.params) mg h "InvalidRow" 1 ["index"] [0] (DL.fD1 "index") := by
      refine' DL.xck1_of (st := (DL.metOf PySem.Challenge.pw_braidwords_k01_limits_and_errors 13 0)) (PySem.W.mg_of Kin G ?aC) (DL.xcls_of DL.xb_Value ?q ?ov ?sa ?iC ?tI ?kC ?ga ?gg ?ex ?hd) ?ty ?hno ?lk ?c ?k ?S ?hb ?hbd ?hbk ?hs ?hc
      (case aC => k_is); (case iC => k_is); (case q => kx_is); (case ov => kx_is); (case sa => k_is); (case tI => k_is); (case kC => k_is); (case ga => k_is); (case gg => k_is); (case ex => k_is); (case hd => k_is); (case ty => k_is)
      (case hno => k_is)
      (case lk => k_is); (case c => k_is); (case k => k_is)
      (case S => exact ⟨by kernel_rfl, by kernel_rfl, by kernel_rfl, by decide, rfl, by decide +kernel, by decide +kernel⟩)
      (case hb => rfl)
      (case hbd => intro kV doc pm an cdv ct us hl; match us, hl with | [a, b], _ => rfl)
      (case hbk => intro kV doc pm an cdv ct us ws hl hl2; match us, ws, hl, hl2 with | [a], [b], _, _ => rfl)
      (case hs => decide); (case hc => decide)
theorem KX.v_x_InvalidRows (w : World) (mg : Str → Option Value) (h : Heap) (Kin : (hd.heap_39 w.params).In h) (G : h.Ns mainGlobals mg) : DL.XcB (PySem.Challenge.rw_braidwords_k01_limits_and_errors).prog w (hd.heap_39 w.params) mg h "InvalidRows" 1 (DL.fD1 "index") ∧ DL.XkB (PySem.Challenge.rw_braidwords_k01_limits_and_errors).prog w (hd.heap_39 w.params) mg h "InvalidRows" 1 ["index"] [0] (DL.fD1 "index") := by
      refine' DL.xck1_of (st := (DL.metOf PySem.Challenge.pw_braidwords_k01_limits_and_errors 14 0)) (PySem.W.mg_of Kin G ?aC) (DL.xcls_of DL.xb_Value ?q ?ov ?sa ?iC ?tI ?kC ?ga ?gg ?ex ?hd) ?ty ?hno ?lk ?c ?k ?S ?hb ?hbd ?hbk ?hs ?hc
      (case aC => k_is); (case iC => k_is); (case q => kx_is); (case ov => kx_is); (case sa => k_is); (case tI => k_is); (case kC => k_is); (case ga => k_is); (case gg => k_is); (case ex => k_is); (case hd => k_is); (case ty => k_is)
      (case hno => k_is)
      (case lk => k_is); (case c => k_is); (case k => k_is)
      (case S => exact ⟨by kernel_rfl, by kernel_rfl, by kernel_rfl, by decide, rfl, by decide +kernel, by decide +kernel⟩)
      (case hb => rfl)
      (case hbd => intro kV doc pm an cdv ct us hl; match us, hl with | [a, b], _ => rfl)
      (case hbk => intro kV doc pm an cdv ct us ws hl hl2; match us, ws, hl, hl2 with | [a], [b], _, _ => rfl)
      (case hs => decide); (case hc => decide)
theorem KX.v_x_InvalidUnknown (w : World) (mg : Str → Option Value) (h : Heap) (Kin : (hd.heap_39 w.params).In h) (G : h.Ns mainGlobals mg) : DL.XcB (PySem.Challenge.rw_braidwords_k01_limits_and_errors).prog w (hd.heap_39 w.params) mg h "InvalidUnknown" 1 (DL.fD1 "index") ∧ DL.XkB (PySem.Challenge.rw_braidwords_k01_limits_and_errors).prog w (hd.heap_39 w.params) mg h "InvalidUnknown" 1 ["index"] [0] (DL.fD1 "index") := by
      refine' DL.xck1_of (st := (DL.metOf PySem.Challenge.pw_braidwords_k01_limits_and_errors 15 0)) (PySem.W.mg_of Kin G ?aC) (DL.xcls_of DL.xb_Value ?q ?ov ?sa ?iC ?tI ?kC ?ga ?gg ?ex ?hd) ?ty ?hno ?lk ?c ?k ?S ?hb ?hbd ?hbk ?hs ?hc
      (case aC => k_is); (case iC => k_is); (case q => kx_is); (case ov => kx_is); (case sa => k_is); (case tI => k_is); (case kC => k_is); (case ga => k_is); (case gg => k_is); (case ex => k_is); (case hd => k_is); (case ty => k_is)
      (case hno => k_is)
      (case lk => k_is); (case c => k_is); (case k => k_is)
      (case S => exact ⟨by kernel_rfl, by kernel_rfl, by kernel_rfl, by decide, rfl, by decide +kernel, by decide +kernel⟩)
      (case hb => rfl)
      (case hbd => intro kV doc pm an cdv ct us hl; match us, hl with | [a, b], _ => rfl)
      (case hbk => intro kV doc pm an cdv ct us ws hl hl2; match us, ws, hl, hl2 with | [a], [b], _, _ => rfl)
      (case hs => decide); (case hc => decide)
theorem KX.v_x_InvalidTold (w : World) (mg : Str → Option Value) (h : Heap) (Kin : (hd.heap_39 w.params).In h) (G : h.Ns mainGlobals mg) : DL.XcB (PySem.Challenge.rw_braidwords_k01_limits_and_errors).prog w (hd.heap_39 w.params) mg h "InvalidTold" 1 (DL.fD1 "index") ∧ DL.XkB (PySem.Challenge.rw_braidwords_k01_limits_and_errors).prog w (hd.heap_39 w.params) mg h "InvalidTold" 1 ["index"] [0] (DL.fD1 "index") := by
      refine' DL.xck1_of (st := (DL.metOf PySem.Challenge.pw_braidwords_k01_limits_and_errors 16 0)) (PySem.W.mg_of Kin G ?aC) (DL.xcls_of DL.xb_Value ?q ?ov ?sa ?iC ?tI ?kC ?ga ?gg ?ex ?hd) ?ty ?hno ?lk ?c ?k ?S ?hb ?hbd ?hbk ?hs ?hc
      (case aC => k_is); (case iC => k_is); (case q => kx_is); (case ov => kx_is); (case sa => k_is); (case tI => k_is); (case kC => k_is); (case ga => k_is); (case gg => k_is); (case ex => k_is); (case hd => k_is); (case ty => k_is)
      (case hno => k_is)
      (case lk => k_is); (case c => k_is); (case k => k_is)
      (case S => exact ⟨by kernel_rfl, by kernel_rfl, by kernel_rfl, by decide, rfl, by decide +kernel, by decide +kernel⟩)
      (case hb => rfl)
      (case hbd => intro kV doc pm an cdv ct us hl; match us, hl with | [a, b], _ => rfl)
      (case hbk => intro kV doc pm an cdv ct us ws hl hl2; match us, ws, hl, hl2 with | [a], [b], _, _ => rfl)
      (case hs => decide); (case hc => decide)
theorem KX.v_x_UnknownName (w : World) (mg : Str → Option Value) (h : Heap) (Kin : (hd.heap_39 w.params).In h) (G : h.Ns mainGlobals mg) : DL.XcB (PySem.Challenge.rw_braidwords_k01_limits_and_errors).prog w (hd.heap_39 w.params) mg h "UnknownName" 1 (DL.fD1 "given") ∧ DL.XkB (PySem.Challenge.rw_braidwords_k01_limits_and_errors).prog w (hd.heap_39 w.params) mg h "UnknownName" 1 ["given"] [0] (DL.fD1 "given") := by
      refine' DL.xck1_of (st := (DL.metOf PySem.Challenge.pw_braidwords_k01_limits_and_errors 18 0)) (PySem.W.mg_of Kin G ?aC) (DL.xcls_of DL.xb_Lookup ?q ?ov ?sa ?iC ?tI ?kC ?ga ?gg ?ex ?hd) ?ty ?hno ?lk ?c ?k ?S ?hb ?hbd ?hbk ?hs ?hc
      (case aC => k_is); (case iC => k_is); (case q => kx_is); (case ov => kx_is); (case sa => k_is); (case tI => k_is); (case kC => k_is); (case ga => k_is); (case gg => k_is); (case ex => k_is); (case hd => k_is); (case ty => k_is)
      (case hno => k_is)
      (case lk => k_is); (case c => k_is); (case k => k_is)
      (case S => exact ⟨by kernel_rfl, by kernel_rfl, by kernel_rfl, by decide, rfl, by decide +kernel, by decide +kernel⟩)
      (case hb => rfl)
      (case hbd => intro kV doc pm an cdv ct us hl; match us, hl with | [a, b], _ => rfl)
      (case hbk => intro kV doc pm an cdv ct us ws hl hl2; match us, ws, hl, hl2 with | [a], [b], _, _ => rfl)
      (case hs => decide); (case hc => decide)
theorem KX.v_x_InUse (w : World) (mg : Str → Option Value) (h : Heap) (Kin : (hd.heap_39 w.params).In h) (G : h.Ns mainGlobals mg) : DL.XcB (PySem.Challenge.rw_braidwords_k01_limits_and_errors).prog w (hd.heap_39 w.params) mg h "InUse" 1 (DL.fD1 "index") ∧ DL.XkB (PySem.Challenge.rw_braidwords_k01_limits_and_errors).prog w (hd.heap_39 w.params) mg h "InUse" 1 ["index"] [0] (DL.fD1 "index") := by
      refine' DL.xck1_of (st := (DL.metOf PySem.Challenge.pw_braidwords_k01_limits_and_errors 19 0)) (PySem.W.mg_of Kin G ?aC) (DL.xcls_of DL.xb_Lookup ?q ?ov ?sa ?iC ?tI ?kC ?ga ?gg ?ex ?hd) ?ty ?hno ?lk ?c ?k ?S ?hb ?hbd ?hbk ?hs ?hc
      (case aC => k_is); (case iC => k_is); (case q => kx_is); (case ov => kx_is); (case sa => k_is); (case tI => k_is); (case kC => k_is); (case ga => k_is); (case gg => k_is); (case ex => k_is); (case hd => k_is); (case ty => k_is)
      (case hno => k_is)
      (case lk => k_is); (case c => k_is); (case k => k_is)
      (case S => exact ⟨by kernel_rfl, by kernel_rfl, by kernel_rfl, by decide, rfl, by decide +kernel, by decide +kernel⟩)
      (case hb => rfl)
      (case hbd => intro kV doc pm an cdv ct us hl; match us, hl with | [a, b], _ => rfl)
      (case hbk => intro kV doc pm an cdv ct us ws hl hl2; match us, ws, hl, hl2 with | [a], [b], _, _ => rfl)
      (case hs => decide); (case hc => decide)
theorem KX.v_z_NothingToUndo (w : World) (mg : Str → Option Value) (h : Heap) (Kin : (hd.heap_39 w.params).In h) (G : h.Ns mainGlobals mg) : DL.X0B (PySem.Challenge.rw_braidwords_k01_limits_and_errors).prog w (hd.heap_39 w.params) mg h "NothingToUndo" := by
      refine' DL.x0b_of (PySem.W.mg_of Kin G ?aC) (PySem.W.mg_none_of Kin G ?aS) ?kC ?iC ?tI ?lk ?hcd ?hcode ?hvs ?hfile ?hcell ?hC ?hmro ?hsup ?hsub ?hop kxs_LookupError PySem.F.excBase_LookupError ?q ?htop ?hbody ?hbind ?hpr ?har ?hks ?hkc ?hka ?hline ?hk ?hco ?hgen ?hnc ?hdb
      (case aC => k_is); (case aS => k_is); (case kC => k_is); (case iC => k_is); (case tI => k_is); (case lk => k_is); (case hcd => k_is); (case hcode => k_is); (case hvs => rfl); (case hfile => first | rfl | decide +kernel); (case hcell => k_is); (case hC => k_is); (case hmro => k_is); (case hsup => ks_is); (case hsub => k_is); (case hop => k_is)
      (case q => kx_is); (case htop => first | rfl | decide +kernel); (case hbody => rfl); (case hbind => intro x; rfl); (case hpr => rfl); (case har => rfl); (case hks => rfl); (case hkc => rfl); (case hka => rfl); (case hline => rfl); (case hk => rfl); (case hco => rfl); (case hgen => rfl); (case hnc => decide); (case hdb => decide)
theorem KX.v_x_NotAlike (w : World) (mg : Str → Option Value) (h : Heap) (Kin : (hd.heap_39 w.params).In h) (G : h.Ns mainGlobals mg) : DL.XcB (PySem.Challenge.rw_braidwords_k01_limits_and_errors).prog w (hd.heap_39 w.params) mg h "NotAlike" 1 (DL.fD1 "letter") ∧ DL.XkB (PySem.Challenge.rw_braidwords_k01_limits_and_errors).prog w (hd.heap_39 w.params) mg h "NotAlike" 1 ["letter"] [0] (DL.fD1 "letter") := by
      refine' DL.xck1_of (st := (DL.metOf PySem.Challenge.pw_braidwords_k01_limits_and_errors 22 0)) (PySem.W.mg_of Kin G ?aC) (DL.xcls_of DL.xb_Arith ?q ?ov ?sa ?iC ?tI ?kC ?ga ?gg ?ex ?hd) ?ty ?hno ?lk ?c ?k ?S ?hb ?hbd ?hbk ?hs ?hc
      (case aC => k_is); (case iC => k_is); (case q => kx_is); (case ov => kx_is); (case sa => k_is); (case tI => k_is); (case kC => k_is); (case ga => k_is); (case gg => k_is); (case ex => k_is); (case hd => k_is); (case ty => k_is)
      (case hno => k_is)
      (case lk => k_is); (case c => k_is); (case k => k_is)
      (case S => exact ⟨by kernel_rfl, by kernel_rfl, by kernel_rfl, by decide, rfl, by decide +kernel, by decide +kernel⟩)
      (case hb => rfl)
      (case hbd => intro kV doc pm an cdv ct us hl; match us, hl with | [a, b], _ => rfl)
      (case hbk => intro kV doc pm an cdv ct us ws hl hl2; match us, ws, hl, hl2 with | [a], [b], _, _ => rfl)
      (case hs => decide); (case hc => decide)
theorem KX.v_x_NotShortest (w : World) (mg : Str → Option Value) (h : Heap) (Kin : (hd.heap_39 w.params).In h) (G : h.Ns mainGlobals mg) : DL.XcB (PySem.Challenge.rw_braidwords_k01_limits_and_errors).prog w (hd.heap_39 w.params) mg h "NotShortest" 1 (DL.fD1 "indexes") ∧ DL.XkB (PySem.Challenge.rw_braidwords_k01_limits_and_errors).prog w (hd.heap_39 w.params) mg h "NotShortest" 1 ["indexes"] [0] (DL.fD1 "indexes") := by
      refine' DL.xck1_of (st := (DL.metOf PySem.Challenge.pw_braidwords_k01_limits_and_errors 23 0)) (PySem.W.mg_of Kin G ?aC) (DL.xcls_of DL.xb_Arith ?q ?ov ?sa ?iC ?tI ?kC ?ga ?gg ?ex ?hd) ?ty ?hno ?lk ?c ?k ?S ?hb ?hbd ?hbk ?hs ?hc
      (case aC => k_is); (case iC => k_is); (case q => kx_is); (case ov => kx_is); (case sa => k_is); (case tI => k_is); (case kC => k_is); (case ga => k_is); (case gg => k_is); (case ex => k_is); (case hd => k_is); (case ty => k_is)
      (case hno => k_is)
      (case lk => k_is); (case c => k_is); (case k => k_is)
      (case S => exact ⟨by kernel_rfl, by kernel_rfl, by kernel_rfl, by decide, rfl, by decide +kernel, by decide +kernel⟩)
      (case hb => rfl)
      (case hbd => intro kV doc pm an cdv ct us hl; match us, hl with | [a, b], _ => rfl)
      (case hbk => intro kV doc pm an cdv ct us ws hl hl2; match us, ws, hl, hl2 with | [a], [b], _, _ => rfl)
      (case hs => decide); (case hc => decide)
theorem KX.v_z_NoMove (w : World) (mg : Str → Option Value) (h : Heap) (Kin : (hd.heap_39 w.params).In h) (G : h.Ns mainGlobals mg) : DL.X0B (PySem.Challenge.rw_braidwords_k01_limits_and_errors).prog w (hd.heap_39 w.params) mg h "NoMove" := by
      refine' DL.x0b_of (PySem.W.mg_of Kin G ?aC) (PySem.W.mg_none_of Kin G ?aS) ?kC ?iC ?tI ?lk ?hcd ?hcode ?hvs ?hfile ?hcell ?hC ?hmro ?hsup ?hsub ?hop kxs_ArithmeticError PySem.F.excBase_ArithmeticError ?q ?htop ?hbody ?hbind ?hpr ?har ?hks ?hkc ?hka ?hline ?hk ?hco ?hgen ?hnc ?hdb
      (case aC => k_is); (case aS => k_is); (case kC => k_is); (case iC => k_is); (case tI => k_is); (case lk => k_is); (case hcd => k_is); (case hcode => k_is); (case hvs => rfl); (case hfile => first | rfl | decide +kernel); (case hcell => k_is); (case hC => k_is); (case hmro => k_is); (case hsup => ks_is); (case hsub => k_is); (case hop => k_is)
      (case q => kx_is); (case htop => first | rfl | decide +kernel); (case hbody => rfl); (case hbind => intro x; rfl); (case hpr => rfl); (case har => rfl); (case hks => rfl); (case hkc => rfl); (case hka => rfl); (case hline => rfl); (case hk => rfl); (case hco => rfl); (case hgen => rfl); (case hnc => decide); (case hdb => decide)
theorem KX.v_x_TooMany (w : World) (mg : Str → Option Value) (h : Heap) (Kin : (hd.heap_39 w.params).In h) (G : h.Ns mainGlobals mg) : DL.XcB (PySem.Challenge.rw_braidwords_k01_limits_and_errors).prog w (hd.heap_39 w.params) mg h "TooMany" 1 (DL.fD1 "most") ∧ DL.XkB (PySem.Challenge.rw_braidwords_k01_limits_and_errors).prog w (hd.heap_39 w.params) mg h "TooMany" 1 ["most"] [0] (DL.fD1 "most") := by
      refine' DL.xck1_of (st := (DL.metOf PySem.Challenge.pw_braidwords_k01_limits_and_errors 25 0)) (PySem.W.mg_of Kin G ?aC) (DL.xcls_of DL.xb_Arith ?q ?ov ?sa ?iC ?tI ?kC ?ga ?gg ?ex ?hd) ?ty ?hno ?lk ?c ?k ?S ?hb ?hbd ?hbk ?hs ?hc
      (case aC => k_is); (case iC => k_is); (case q => kx_is); (case ov => kx_is); (case sa => k_is); (case tI => k_is); (case kC => k_is); (case ga => k_is); (case gg => k_is); (case ex => k_is); (case hd => k_is); (case ty => k_is)
      (case hno => k_is)
      (case lk => k_is); (case c => k_is); (case k => k_is)
      (case S => exact ⟨by kernel_rfl, by kernel_rfl, by kernel_rfl, by decide, rfl, by decide +kernel, by decide +kernel⟩)
      (case hb => rfl)
      (case hbd => intro kV doc pm an cdv ct us hl; match us, hl with | [a, b], _ => rfl)
      (case hbk => intro kV doc pm an cdv ct us ws hl hl2; match us, ws, hl, hl2 with | [a], [b], _, _ => rfl)
      (case hs => decide); (case hc => decide)
theorem KX.v_x_Broken (w : World) (mg : Str → Option Value) (h : Heap) (Kin : (hd.heap_39 w.params).In h) (G : h.Ns mainGlobals mg) : DL.XcB (PySem.Challenge.rw_braidwords_k01_limits_and_errors).prog w (hd.heap_39 w.params) mg h "Broken" 2 (DL.fD2 "index" "shown") ∧ DL.XkB (PySem.Challenge.rw_braidwords_k01_limits_and_errors).prog w (hd.heap_39 w.params) mg h "Broken" 2 ["shown", "index"] [1, 0] (DL.fD2 "index" "shown") := by
      refine' DL.xck2_of (st := (DL.metOf PySem.Challenge.pw_braidwords_k01_limits_and_errors 26 0)) (PySem.W.mg_of Kin G ?aC) (DL.xcls_of DL.xb_Arith ?q ?ov ?sa ?iC ?tI ?kC ?ga ?gg ?ex ?hd) ?ty ?hno ?hno2 ?lk ?c ?k ?S ?hb ?hbd ?hbk ?hs ?hc ?hs2 ?hc2
      (case aC => k_is); (case iC => k_is); (case q => kx_is); (case ov => kx_is); (case sa => k_is); (case tI => k_is); (case kC => k_is); (case ga => k_is); (case gg => k_is); (case ex => k_is); (case hd => k_is); (case ty => k_is)
      (case hno => k_is); (case hno2 => k_is)
      (case lk => k_is); (case c => k_is); (case k => k_is)
      (case S => exact ⟨by kernel_rfl, by kernel_rfl, by kernel_rfl, by decide, rfl, by decide +kernel, by decide +kernel⟩)
      (case hb => rfl)
      (case hbd => intro kV doc pm an cdv ct us hl; match us, hl with | [a, b, c], _ => rfl)
      (case hbk => intro kV doc pm an cdv ct us ws hl hl2; match us, ws, hl, hl2 with | [a], [b, c], _, _ => rfl)
      (case hs => decide); (case hc => decide); (case hs2 => decide); (case hc2 => decide)
theorem KX.v_t_given_InvalidText (w : World) (mg : Str → Option Value) (h : Heap) (Kin : (hd.heap_39 w.params).In h) (G : h.Ns mainGlobals mg) : ∃ C : Addr, mg "InvalidText" = some (.ref C) ∧ L2.XfC (hd.heap_39 w.params) C ∧ findIn (hd.heap_39 w.params) (.ref C) "given" = some none := by
  refine' ⟨_, PySem.W.mg_of Kin G ?aC, ⟨?ga, ?gg, ?ex, ?hd⟩, ?no⟩
  (case aC => k_is); (case ga => k_is); (case gg => k_is); (case ex => k_is); (case hd => k_is); (case no => k_is)
theorem KX.v_t_given_InvalidNumber (w : World) (mg : Str → Option Value) (h : Heap) (Kin : (hd.heap_39 w.params).In h) (G : h.Ns mainGlobals mg) : ∃ C : Addr, mg "InvalidNumber" = some (.ref C) ∧ L2.XfC (hd.heap_39 w.params) C ∧ findIn (hd.heap_39 w.params) (.ref C) "given" = some none := by
  refine' ⟨_, PySem.W.mg_of Kin G ?aC, ⟨?ga, ?gg, ?ex, ?hd⟩, ?no⟩
  (case aC => k_is); (case ga => k_is); (case gg => k_is); (case ex => k_is); (case hd => k_is); (case no => k_is)
theorem KX.v_t_given_InvalidName (w : World) (mg : Str → Option Value) (h : Heap) (Kin : (hd.heap_39 w.params).In h) (G : h.Ns mainGlobals mg) : ∃ C : Addr, mg "InvalidName" = some (.ref C) ∧ L2.XfC (hd.heap_39 w.params) C ∧ findIn (hd.heap_39 w.params) (.ref C) "given" = some none := by
  refine' ⟨_, PySem.W.mg_of Kin G ?aC, ⟨?ga, ?gg, ?ex, ?hd⟩, ?no⟩
  (case aC => k_is); (case ga => k_is); (case gg => k_is); (case ex => k_is); (case hd => k_is); (case no => k_is)
theorem KX.v_t_given_InvalidIndex (w : World) (mg : Str → Option Value) (h : Heap) (Kin : (hd.heap_39 w.params).In h) (G : h.Ns mainGlobals mg) : ∃ C : Addr, mg "InvalidIndex" = some (.ref C) ∧ L2.XfC (hd.heap_39 w.params) C ∧ findIn (hd.heap_39 w.params) (.ref C) "given" = some none := by
  refine' ⟨_, PySem.W.mg_of Kin G ?aC, ⟨?ga, ?gg, ?ex, ?hd⟩, ?no⟩
  (case aC => k_is); (case ga => k_is); (case gg => k_is); (case ex => k_is); (case hd => k_is); (case no => k_is)
theorem KX.v_t_given_InvalidWord (w : World) (mg : Str → Option Value) (h : Heap) (Kin : (hd.heap_39 w.params).In h) (G : h.Ns mainGlobals mg) : ∃ C : Addr, mg "InvalidWord" = some (.ref C) ∧ L2.XfC (hd.heap_39 w.params) C ∧ findIn (hd.heap_39 w.params) (.ref C) "given" = some none := by
  refine' ⟨_, PySem.W.mg_of Kin G ?aC, ⟨?ga, ?gg, ?ex, ?hd⟩, ?no⟩
  (case aC => k_is); (case ga => k_is); (case gg => k_is); (case ex => k_is); (case hd => k_is); (case no => k_is)
theorem KX.v_t_given_InvalidLetter (w : World) (mg : Str → Option Value) (h : Heap) (Kin : (hd.heap_39 w.params).In h) (G : h.Ns mainGlobals mg) : ∃ C : Addr, mg "InvalidLetter" = some (.ref C) ∧ L2.XfC (hd.heap_39 w.params) C ∧ findIn (hd.heap_39 w.params) (.ref C) "given" = some none := by
  refine' ⟨_, PySem.W.mg_of Kin G ?aC, ⟨?ga, ?gg, ?ex, ?hd⟩, ?no⟩
  (case aC => k_is); (case ga => k_is); (case gg => k_is); (case ex => k_is); (case hd => k_is); (case no => k_is)
theorem KX.v_t_given_InvalidLot (w : World) (mg : Str → Option Value) (h : Heap) (Kin : (hd.heap_39 w.params).In h) (G : h.Ns mainGlobals mg) : ∃ C : Addr, mg "InvalidLot" = some (.ref C) ∧ L2.XfC (hd.heap_39 w.params) C ∧ findIn (hd.heap_39 w.params) (.ref C) "given" = some none := by
  refine' ⟨_, PySem.W.mg_of Kin G ?aC, ⟨?ga, ?gg, ?ex, ?hd⟩, ?no⟩
  (case aC => k_is); (case ga => k_is); (case gg => k_is); (case ex => k_is); (case hd => k_is); (case no => k_is)
theorem KX.v_t_given_InvalidClaim (w : World) (mg : Str → Option Value) (h : Heap) (Kin : (hd.heap_39 w.params).In h) (G : h.Ns mainGlobals mg) : ∃ C : Addr, mg "InvalidClaim" = some (.ref C) ∧ L2.XfC (hd.heap_39 w.params) C ∧ findIn (hd.heap_39 w.params) (.ref C) "given" = some none := by
  refine' ⟨_, PySem.W.mg_of Kin G ?aC, ⟨?ga, ?gg, ?ex, ?hd⟩, ?no⟩
  (case aC => k_is); (case ga => k_is); (case gg => k_is); (case ex => k_is); (case hd => k_is); (case no => k_is)
theorem KX.v_t_given_InvalidCommand (w : World) (mg : Str → Option Value) (h : Heap) (Kin : (hd.heap_39 w.params).In h) (G : h.Ns mainGlobals mg) : ∃ C : Addr, mg "InvalidCommand" = some (.ref C) ∧ L2.XfC (hd.heap_39 w.params) C ∧ findIn (hd.heap_39 w.params) (.ref C) "given" = some none := by
  refine' ⟨_, PySem.W.mg_of Kin G ?aC, ⟨?ga, ?gg, ?ex, ?hd⟩, ?no⟩
  (case aC => k_is); (case ga => k_is); (case gg => k_is); (case ex => k_is); (case hd => k_is); (case no => k_is)
theorem KX.v_t_given_NotMirrors (w : World) (mg : Str → Option Value) (h : Heap) (Kin : (hd.heap_39 w.params).In h) (G : h.Ns mainGlobals mg) : ∃ C : Addr, mg "NotMirrors" = some (.ref C) ∧ L2.XfC (hd.heap_39 w.params) C ∧ findIn (hd.heap_39 w.params) (.ref C) "given" = some none := by
  refine' ⟨_, PySem.W.mg_of Kin G ?aC, ⟨?ga, ?gg, ?ex, ?hd⟩, ?no⟩
  (case aC => k_is); (case ga => k_is); (case gg => k_is); (case ex => k_is); (case hd => k_is); (case no => k_is)
theorem KX.v_t_given_UnknownName (w : World) (mg : Str → Option Value) (h : Heap) (Kin : (hd.heap_39 w.params).In h) (G : h.Ns mainGlobals mg) : ∃ C : Addr, mg "UnknownName" = some (.ref C) ∧ L2.XfC (hd.heap_39 w.params) C ∧ findIn (hd.heap_39 w.params) (.ref C) "given" = some none := by
  refine' ⟨_, PySem.W.mg_of Kin G ?aC, ⟨?ga, ?gg, ?ex, ?hd⟩, ?no⟩
  (case aC => k_is); (case ga => k_is); (case gg => k_is); (case ex => k_is); (case hd => k_is); (case no => k_is)
theorem KX.v_t_index_InvalidAngles (w : World) (mg : Str → Option Value) (h : Heap) (Kin : (hd.heap_39 w.params).In h) (G : h.Ns mainGlobals mg) : ∃ C : Addr, mg "InvalidAngles" = some (.ref C) ∧ L2.XfC (hd.heap_39 w.params) C ∧ findIn (hd.heap_39 w.params) (.ref C) "index" = some none := by
  refine' ⟨_, PySem.W.mg_of Kin G ?aC, ⟨?ga, ?gg, ?ex, ?hd⟩, ?no⟩
  (case aC => k_is); (case ga => k_is); (case gg => k_is); (case ex => k_is); (case hd => k_is); (case no => k_is)
theorem KX.v_t_index_InvalidRow (w : World) (mg : Str → Option Value) (h : Heap) (Kin : (hd.heap_39 w.params).In h) (G : h.Ns mainGlobals mg) : ∃ C : Addr, mg "InvalidRow" = some (.ref C) ∧ L2.XfC (hd.heap_39 w.params) C ∧ findIn (hd.heap_39 w.params) (.ref C) "index" = some none := by
  refine' ⟨_, PySem.W.mg_of Kin G ?aC, ⟨?ga, ?gg, ?ex, ?hd⟩, ?no⟩
  (case aC => k_is); (case ga => k_is); (case gg => k_is); (case ex => k_is); (case hd => k_is); (case no => k_is)
theorem KX.v_t_index_InvalidRows (w : World) (mg : Str → Option Value) (h : Heap) (Kin : (hd.heap_39 w.params).In h) (G : h.Ns mainGlobals mg) : ∃ C : Addr, mg "InvalidRows" = some (.ref C) ∧ L2.XfC (hd.heap_39 w.params) C ∧ findIn (hd.heap_39 w.params) (.ref C) "index" = some none := by
  refine' ⟨_, PySem.W.mg_of Kin G ?aC, ⟨?ga, ?gg, ?ex, ?hd⟩, ?no⟩
  (case aC => k_is); (case ga => k_is); (case gg => k_is); (case ex => k_is); (case hd => k_is); (case no => k_is)
theorem KX.v_t_index_InvalidUnknown (w : World) (mg : Str → Option Value) (h : Heap) (Kin : (hd.heap_39 w.params).In h) (G : h.Ns mainGlobals mg) : ∃ C : Addr, mg "InvalidUnknown" = some (.ref C) ∧ L2.XfC (hd.heap_39 w.params) C ∧ findIn (hd.heap_39 w.params) (.ref C) "index" = some none := by
  refine' ⟨_, PySem.W.mg_of Kin G ?aC, ⟨?ga, ?gg, ?ex, ?hd⟩, ?no⟩
  (case aC => k_is); (case ga => k_is); (case gg => k_is); (case ex => k_is); (case hd => k_is); (case no => k_is)
theorem KX.v_t_index_InvalidTold (w : World) (mg : Str → Option Value) (h : Heap) (Kin : (hd.heap_39 w.params).In h) (G : h.Ns mainGlobals mg) : ∃ C : Addr, mg "InvalidTold" = some (.ref C) ∧ L2.XfC (hd.heap_39 w.params) C ∧ findIn (hd.heap_39 w.params) (.ref C) "index" = some none := by
  refine' ⟨_, PySem.W.mg_of Kin G ?aC, ⟨?ga, ?gg, ?ex, ?hd⟩, ?no⟩
  (case aC => k_is); (case ga => k_is); (case gg => k_is); (case ex => k_is); (case hd => k_is); (case no => k_is)
theorem KX.v_t_index_InUse (w : World) (mg : Str → Option Value) (h : Heap) (Kin : (hd.heap_39 w.params).In h) (G : h.Ns mainGlobals mg) : ∃ C : Addr, mg "InUse" = some (.ref C) ∧ L2.XfC (hd.heap_39 w.params) C ∧ findIn (hd.heap_39 w.params) (.ref C) "index" = some none := by
  refine' ⟨_, PySem.W.mg_of Kin G ?aC, ⟨?ga, ?gg, ?ex, ?hd⟩, ?no⟩
  (case aC => k_is); (case ga => k_is); (case gg => k_is); (case ex => k_is); (case hd => k_is); (case no => k_is)
theorem KX.v_t_index_Broken (w : World) (mg : Str → Option Value) (h : Heap) (Kin : (hd.heap_39 w.params).In h) (G : h.Ns mainGlobals mg) : ∃ C : Addr, mg "Broken" = some (.ref C) ∧ L2.XfC (hd.heap_39 w.params) C ∧ findIn (hd.heap_39 w.params) (.ref C) "index" = some none := by
  refine' ⟨_, PySem.W.mg_of Kin G ?aC, ⟨?ga, ?gg, ?ex, ?hd⟩, ?no⟩
  (case aC => k_is); (case ga => k_is); (case gg => k_is); (case ex => k_is); (case hd => k_is); (case no => k_is)
theorem KX.v_t_indexes_NotShortest (w : World) (mg : Str → Option Value) (h : Heap) (Kin : (hd.heap_39 w.params).In h) (G : h.Ns mainGlobals mg) : ∃ C : Addr, mg "NotShortest" = some (.ref C) ∧ L2.XfC (hd.heap_39 w.params) C ∧ findIn (hd.heap_39 w.params) (.ref C) "indexes" = some none := by
  refine' ⟨_, PySem.W.mg_of Kin G ?aC, ⟨?ga, ?gg, ?ex, ?hd⟩, ?no⟩
  (case aC => k_is); (case ga => k_is); (case gg => k_is); (case ex => k_is); (case hd => k_is); (case no => k_is)
theorem KX.v_t_letter_NotAlike (w : World) (mg : Str → Option Value) (h : Heap) (Kin : (hd.heap_39 w.params).In h) (G : h.Ns mainGlobals mg) : ∃ C : Addr, mg "NotAlike" = some (.ref C) ∧ L2.XfC (hd.heap_39 w.params) C ∧ findIn (hd.heap_39 w.params) (.ref C) "letter" = some none := by
  refine' ⟨_, PySem.W.mg_of Kin G ?aC, ⟨?ga, ?gg, ?ex, ?hd⟩, ?no⟩
  (case aC => k_is); (case ga => k_is); (case gg => k_is); (case ex => k_is); (case hd => k_is); (case no => k_is)
theorem KX.v_t_most_TooMany (w : World) (mg : Str → Option Value) (h : Heap) (Kin : (hd.heap_39 w.params).In h) (G : h.Ns mainGlobals mg) : ∃ C : Addr, mg "TooMany" = some (.ref C) ∧ L2.XfC (hd.heap_39 w.params) C ∧ findIn (hd.heap_39 w.params) (.ref C) "most" = some none := by
  refine' ⟨_, PySem.W.mg_of Kin G ?aC, ⟨?ga, ?gg, ?ex, ?hd⟩, ?no⟩
  (case aC => k_is); (case ga => k_is); (case gg => k_is); (case ex => k_is); (case hd => k_is); (case no => k_is)
theorem KX.v_n_ArithmeticError (w : World) (mg : Str → Option Value) (h : Heap) (Kin : (hd.heap_39 w.params).In h) (G : h.Ns mainGlobals mg) : mg "ArithmeticError" = none := by
  exact PySem.W.mg_none_of Kin G (by k_is)
theorem KX.v_n_LookupError (w : World) (mg : Str → Option Value) (h : Heap) (Kin : (hd.heap_39 w.params).In h) (G : h.Ns mainGlobals mg) : mg "LookupError" = none := by
  exact PySem.W.mg_none_of Kin G (by k_is)
theorem KX.v_n_ValueError (w : World) (mg : Str → Option Value) (h : Heap) (Kin : (hd.heap_39 w.params).In h) (G : h.Ns mainGlobals mg) : mg "ValueError" = none := by
  exact PySem.W.mg_none_of Kin G (by k_is)
theorem KX.v_n_isinstance (w : World) (mg : Str → Option Value) (h : Heap) (Kin : (hd.heap_39 w.params).In h) (G : h.Ns mainGlobals mg) : mg "isinstance" = none := by
  exact PySem.W.mg_none_of Kin G (by k_is)
theorem KX.v_e_NotKnown (w : World) (mg : Str → Option Value) (h : Heap) (Kin : (hd.heap_39 w.params).In h) (G : h.Ns mainGlobals mg) : ∃ C : Addr, mg "NotKnown" = some (.ref C) ∧ DL.CatB mg (fun cls => exmOne (hd.heap_39 w.params) cls (.ref C)) (fun c => if c ∈ (["InUse", "NothingToUndo", "UnknownName"] : List Str) then some true else none) := by
  refine' DL.catb_ex (l := ["InUse", "NothingToUndo", "UnknownName"]) (PySem.W.mg_of Kin G ?aC) ?_ (fun c b h => DL.cat_in c b h)
  (case aC => k_is)
  refine' DL.each_cons (PySem.W.mg_of Kin G ?aC) ?e ?_
  (case aC => k_is); (case e => kts_exm)
  refine' DL.each_cons (PySem.W.mg_of Kin G ?aC) ?e ?_
  (case aC => k_is); (case e => kts_exm)
  refine' DL.each_cons (PySem.W.mg_of Kin G ?aC) ?e ?_
  (case aC => k_is); (case e => kts_exm)
  exact DL.each_nil
theorem KX.v_e_NotPossible (w : World) (mg : Str → Option Value) (h : Heap) (Kin : (hd.heap_39 w.params).In h) (G : h.Ns mainGlobals mg) : ∃ C : Addr, mg "NotPossible" = some (.ref C) ∧ DL.CatB mg (fun cls => exmOne (hd.heap_39 w.params) cls (.ref C)) (fun c => if c ∈ (["Broken", "NoMove", "NotAlike", "NotShortest", "TooMany"] : List Str) then some true else none) := by
  refine' DL.catb_ex (l := ["Broken", "NoMove", "NotAlike", "NotShortest", "TooMany"]) (PySem.W.mg_of Kin G ?aC) ?_ (fun c b h => DL.cat_in c b h)
  (case aC => k_is)
  refine' DL.each_cons (PySem.W.mg_of Kin G ?aC) ?e ?_
  (case aC => k_is); (case e => kts_exm)
  refine' DL.each_cons (PySem.W.mg_of Kin G ?aC) ?e ?_
  (case aC => k_is); (case e => kts_exm)
  refine' DL.each_cons (PySem.W.mg_of Kin G ?aC) ?e ?_
  (case aC => k_is); (case e => kts_exm)
  refine' DL.each_cons (PySem.W.mg_of Kin G ?aC) ?e ?_
  (case aC => k_is); (case e => kts_exm)
  refine' DL.each_cons (PySem.W.mg_of Kin G ?aC) ?e ?_
  (case aC => k_is); (case e => kts_exm)
  exact DL.each_nil
theorem KX.v_e_NotRight (w : World) (mg : Str → Option Value) (h : Heap) (Kin : (hd.heap_39 w.params).In h) (G : h.Ns mainGlobals mg) : ∃ C : Addr, mg "NotRight" = some (.ref C) ∧ DL.CatB mg (fun cls => exmOne (hd.heap_39 w.params) cls (.ref C)) (fun c => if c ∈ (["InvalidAngles", "InvalidClaim", "InvalidCommand", "InvalidIndex", "InvalidLetter", "InvalidLot", "InvalidName", "InvalidNumber", "InvalidRow", "InvalidRows", "InvalidText", "InvalidTold", "InvalidUnknown", "InvalidWord", "NotMirrors"] : List Str) then some true else none) := by
  refine' DL.catb_ex (l := ["InvalidAngles", "InvalidClaim", "InvalidCommand", "InvalidIndex", "InvalidLetter", "InvalidLot", "InvalidName", "InvalidNumber", "InvalidRow", "InvalidRows", "InvalidText", "InvalidTold", "InvalidUnknown", "InvalidWord", "NotMirrors"]) (PySem.W.mg_of Kin G ?aC) ?_ (fun c b h => DL.cat_in c b h)
  (case aC => k_is)
  refine' DL.each_cons (PySem.W.mg_of Kin G ?aC) ?e ?_
  (case aC => k_is); (case e => kts_exm)
  refine' DL.each_cons (PySem.W.mg_of Kin G ?aC) ?e ?_
  (case aC => k_is); (case e => kts_exm)
  refine' DL.each_cons (PySem.W.mg_of Kin G ?aC) ?e ?_
  (case aC => k_is); (case e => kts_exm)
  refine' DL.each_cons (PySem.W.mg_of Kin G ?aC) ?e ?_
  (case aC => k_is); (case e => kts_exm)
  refine' DL.each_cons (PySem.W.mg_of Kin G ?aC) ?e ?_
  (case aC => k_is); (case e => kts_exm)
  refine' DL.each_cons (PySem.W.mg_of Kin G ?aC) ?e ?_
  (case aC => k_is); (case e => kts_exm)
  refine' DL.each_cons (PySem.W.mg_of Kin G ?aC) ?e ?_
  (case aC => k_is); (case e => kts_exm)
  refine' DL.each_cons (PySem.W.mg_of Kin G ?aC) ?e ?_
  (case aC => k_is); (case e => kts_exm)
  refine' DL.each_cons (PySem.W.mg_of Kin G ?aC) ?e ?_
  (case aC => k_is); (case e => kts_exm)
  refine' DL.each_cons (PySem.W.mg_of Kin G ?aC) ?e ?_
  (case aC => k_is); (case e => kts_exm)
  refine' DL.each_cons (PySem.W.mg_of Kin G ?aC) ?e ?_
  (case aC => k_is); (case e => kts_exm)
  refine' DL.each_cons (PySem.W.mg_of Kin G ?aC) ?e ?_
  (case aC => k_is); (case e => kts_exm)
  refine' DL.each_cons (PySem.W.mg_of Kin G ?aC) ?e ?_
  (case aC => k_is); (case e => kts_exm)
  refine' DL.each_cons (PySem.W.mg_of Kin G ?aC) ?e ?_
  (case aC => k_is); (case e => kts_exm)
  refine' DL.each_cons (PySem.W.mg_of Kin G ?aC) ?e ?_
  (case aC => k_is); (case e => kts_exm)
  exact DL.each_nil
theorem KX.v_n_len (w : World) (mg : Str → Option Value) (h : Heap) (Kin : (hd.heap_39 w.params).In h) (G : h.Ns mainGlobals mg) : mg "len" = none := by
  exact PySem.W.mg_none_of Kin G (by k_is)
theorem KX.v_n_range (w : World) (mg : Str → Option Value) (h : Heap) (Kin : (hd.heap_39 w.params).In h) (G : h.Ns mainGlobals mg) : mg "range" = none := by
  exact PySem.W.mg_none_of Kin G (by k_is)
theorem KX.v_n_repr (w : World) (mg : Str → Option Value) (h : Heap) (Kin : (hd.heap_39 w.params).In h) (G : h.Ns mainGlobals mg) : mg "repr" = none := by
  exact PySem.W.mg_none_of Kin G (by k_is)
theorem KX.v_t_shown_Broken (w : World) (mg : Str → Option Value) (h : Heap) (Kin : (hd.heap_39 w.params).In h) (G : h.Ns mainGlobals mg) : ∃ C : Addr, mg "Broken" = some (.ref C) ∧ L2.XfC (hd.heap_39 w.params) C ∧ findIn (hd.heap_39 w.params) (.ref C) "shown" = some none := by
  refine' ⟨_, PySem.W.mg_of Kin G ?aC, ⟨?ga, ?gg, ?ex, ?hd⟩, ?no⟩
  (case aC => k_is); (case ga => k_is); (case gg => k_is); (case ex => k_is); (case hd => k_is); (case no => k_is)
theorem KX.v_k_MOST_LENGTH (w : World) (mg : Str → Option Value) (h : Heap) (Kin : (hd.heap_39 w.params).In h) (G : h.Ns mainGlobals mg) : DL.Con (hd.heap_39 w.params) mg "MOST_LENGTH" KX.K_MOST_LENGTH := by
  refine' DL.con_int (PySem.W.mg_of Kin G ?aC)
  (case aC => k_is)
theorem KX.v_k_MOST_LETTERS (w : World) (mg : Str → Option Value) (h : Heap) (Kin : (hd.heap_39 w.params).In h) (G : h.Ns mainGlobals mg) : DL.Con (hd.heap_39 w.params) mg "MOST_LETTERS" KX.K_MOST_LETTERS := by
  refine' DL.con_int (PySem.W.mg_of Kin G ?aC)
  (case aC => k_is)
theorem KX.v_k_MOST_TOLD (w : World) (mg : Str → Option Value) (h : Heap) (Kin : (hd.heap_39 w.params).In h) (G : h.Ns mainGlobals mg) : DL.Con (hd.heap_39 w.params) mg "MOST_TOLD" KX.K_MOST_TOLD := by
  refine' DL.con_int (PySem.W.mg_of Kin G ?aC)
  (case aC => k_is)
theorem KX.v_k_MOST_UNKNOWN (w : World) (mg : Str → Option Value) (h : Heap) (Kin : (hd.heap_39 w.params).In h) (G : h.Ns mainGlobals mg) : DL.Con (hd.heap_39 w.params) mg "MOST_UNKNOWN" KX.K_MOST_UNKNOWN := by
  refine' DL.con_int (PySem.W.mg_of Kin G ?aC)
  (case aC => k_is)
theorem KX.v_k_MOST_WORD (w : World) (mg : Str → Option Value) (h : Heap) (Kin : (hd.heap_39 w.params).In h) (G : h.Ns mainGlobals mg) : DL.Con (hd.heap_39 w.params) mg "MOST_WORD" KX.K_MOST_WORD := by
  refine' DL.con_int (PySem.W.mg_of Kin G ?aC)
  (case aC => k_is)
theorem KX.v_k_MOST_WORDS (w : World) (mg : Str → Option Value) (h : Heap) (Kin : (hd.heap_39 w.params).In h) (G : h.Ns mainGlobals mg) : DL.Con (hd.heap_39 w.params) mg "MOST_WORDS" KX.K_MOST_WORDS := by
  refine' DL.con_int (PySem.W.mg_of Kin G ?aC)
  (case aC => k_is)
theorem KX.v_n_all (w : World) (mg : Str → Option Value) (h : Heap) (Kin : (hd.heap_39 w.params).In h) (G : h.Ns mainGlobals mg) : mg "all" = none := by
  exact PySem.W.mg_none_of Kin G (by k_is)
theorem KX.v_n_int (w : World) (mg : Str → Option Value) (h : Heap) (Kin : (hd.heap_39 w.params).In h) (G : h.Ns mainGlobals mg) : mg "int" = none := by
  exact PySem.W.mg_none_of Kin G (by k_is)
theorem KX.v_ins (w : World) (mg : Str → Option Value) (h : Heap) (Kin : (hd.heap_39 w.params).In h) (G : h.Ns mainGlobals mg) : DL.Each mg (DL.InsT (hd.heap_39 w.params)) KX.ins := by
  refine DL.each_skip (PySem.W.mg_none_of Kin G (by k_is)) ?_
  exact DL.each_nil
theorem KX.v_exc_NotRight (w : World) (mg : Str → Option Value) (h : Heap) (Kin : (hd.heap_39 w.params).In h) (G : h.Ns mainGlobals mg) : ∃ C : Addr, mg "NotRight" = some (.ref C) ∧ DL.ExcT (hd.heap_39 w.params) C := by
  refine' ⟨_, PySem.W.mg_of Kin G ?aC, ⟨?hcl, ?hga, ?hgt, ?hsub, ?hdC, ?ha, ?hn, ?htk, ?hm⟩⟩
  (case aC => k_is); (case hcl => first | k_is | kernel_rfl); (case hga => k_is); (case hgt => k_is); (case hsub => k_is); (case hdC => k_is); (case ha => k_is); (case hn => k_is); (case htk => k_is); (case hm => k_is)
theorem KX.v_exc_InvalidText (w : World) (mg : Str → Option Value) (h : Heap) (Kin : (hd.heap_39 w.params).In h) (G : h.Ns mainGlobals mg) : ∃ C : Addr, mg "InvalidText" = some (.ref C) ∧ DL.ExcT (hd.heap_39 w.params) C := by
  refine' ⟨_, PySem.W.mg_of Kin G ?aC, ⟨?hcl, ?hga, ?hgt, ?hsub, ?hdC, ?ha, ?hn, ?htk, ?hm⟩⟩
  (case aC => k_is); (case hcl => first | k_is | kernel_rfl); (case hga => k_is); (case hgt => k_is); (case hsub => k_is); (case hdC => k_is); (case ha => k_is); (case hn => k_is); (case htk => k_is); (case hm => k_is)
theorem KX.v_exc_InvalidNumber (w : World) (mg : Str → Option Value) (h : Heap) (Kin : (hd.heap_39 w.params).In h) (G : h.Ns mainGlobals mg) : ∃ C : Addr, mg "InvalidNumber" = some (.ref C) ∧ DL.ExcT (hd.heap_39 w.params) C := by
  refine' ⟨_, PySem.W.mg_of Kin G ?aC, ⟨?hcl, ?hga, ?hgt, ?hsub, ?hdC, ?ha, ?hn, ?htk, ?hm⟩⟩
  (case aC => k_is); (case hcl => first | k_is | kernel_rfl); (case hga => k_is); (case hgt => k_is); (case hsub => k_is); (case hdC => k_is); (case ha => k_is); (case hn => k_is); (case htk => k_is); (case hm => k_is)
theorem KX.v_exc_InvalidName (w : World) (mg : Str → Option Value) (h : Heap) (Kin : (hd.heap_39 w.params).In h) (G : h.Ns mainGlobals mg) : ∃ C : Addr, mg "InvalidName" = some (.ref C) ∧ DL.ExcT (hd.heap_39 w.params) C := by
  refine' ⟨_, PySem.W.mg_of Kin G ?aC, ⟨?hcl, ?hga, ?hgt, ?hsub, ?hdC, ?ha, ?hn, ?htk, ?hm⟩⟩
  (case aC => k_is); (case hcl => first | k_is | kernel_rfl); (case hga => k_is); (case hgt => k_is); (case hsub => k_is); (case hdC => k_is); (case ha => k_is); (case hn => k_is); (case htk => k_is); (case hm => k_is)
theorem KX.v_exc_InvalidIndex (w : World) (mg : Str → Option Value) (h : Heap) (Kin : (hd.heap_39 w.params).In h) (G : h.Ns mainGlobals mg) : ∃ C : Addr, mg "InvalidIndex" = some (.ref C) ∧ DL.ExcT (hd.heap_39 w.params) C := by
  refine' ⟨_, PySem.W.mg_of Kin G ?aC, ⟨?hcl, ?hga, ?hgt, ?hsub, ?hdC, ?ha, ?hn, ?htk, ?hm⟩⟩
  (case aC => k_is); (case hcl => first | k_is | kernel_rfl); (case hga => k_is); (case hgt => k_is); (case hsub => k_is); (case hdC => k_is); (case ha => k_is); (case hn => k_is); (case htk => k_is); (case hm => k_is)
theorem KX.v_exc_InvalidWord (w : World) (mg : Str → Option Value) (h : Heap) (Kin : (hd.heap_39 w.params).In h) (G : h.Ns mainGlobals mg) : ∃ C : Addr, mg "InvalidWord" = some (.ref C) ∧ DL.ExcT (hd.heap_39 w.params) C := by
  refine' ⟨_, PySem.W.mg_of Kin G ?aC, ⟨?hcl, ?hga, ?hgt, ?hsub, ?hdC, ?ha, ?hn, ?htk, ?hm⟩⟩
  (case aC => k_is); (case hcl => first | k_is | kernel_rfl); (case hga => k_is); (case hgt => k_is); (case hsub => k_is); (case hdC => k_is); (case ha => k_is); (case hn => k_is); (case htk => k_is); (case hm => k_is)
theorem KX.v_exc_InvalidLetter (w : World) (mg : Str → Option Value) (h : Heap) (Kin : (hd.heap_39 w.params).In h) (G : h.Ns mainGlobals mg) : ∃ C : Addr, mg "InvalidLetter" = some (.ref C) ∧ DL.ExcT (hd.heap_39 w.params) C := by
  refine' ⟨_, PySem.W.mg_of Kin G ?aC, ⟨?hcl, ?hga, ?hgt, ?hsub, ?hdC, ?ha, ?hn, ?htk, ?hm⟩⟩
  (case aC => k_is); (case hcl => first | k_is | kernel_rfl); (case hga => k_is); (case hgt => k_is); (case hsub => k_is); (case hdC => k_is); (case ha => k_is); (case hn => k_is); (case htk => k_is); (case hm => k_is)
theorem KX.v_exc_InvalidLot (w : World) (mg : Str → Option Value) (h : Heap) (Kin : (hd.heap_39 w.params).In h) (G : h.Ns mainGlobals mg) : ∃ C : Addr, mg "InvalidLot" = some (.ref C) ∧ DL.ExcT (hd.heap_39 w.params) C := by
  refine' ⟨_, PySem.W.mg_of Kin G ?aC, ⟨?hcl, ?hga, ?hgt, ?hsub, ?hdC, ?ha, ?hn, ?htk, ?hm⟩⟩
  (case aC => k_is); (case hcl => first | k_is | kernel_rfl); (case hga => k_is); (case hgt => k_is); (case hsub => k_is); (case hdC => k_is); (case ha => k_is); (case hn => k_is); (case htk => k_is); (case hm => k_is)
theorem KX.v_exc_InvalidClaim (w : World) (mg : Str → Option Value) (h : Heap) (Kin : (hd.heap_39 w.params).In h) (G : h.Ns mainGlobals mg) : ∃ C : Addr, mg "InvalidClaim" = some (.ref C) ∧ DL.ExcT (hd.heap_39 w.params) C := by
  refine' ⟨_, PySem.W.mg_of Kin G ?aC, ⟨?hcl, ?hga, ?hgt, ?hsub, ?hdC, ?ha, ?hn, ?htk, ?hm⟩⟩
  (case aC => k_is); (case hcl => first | k_is | kernel_rfl); (case hga => k_is); (case hgt => k_is); (case hsub => k_is); (case hdC => k_is); (case ha => k_is); (case hn => k_is); (case htk => k_is); (case hm => k_is)
theorem KX.v_exc_InvalidCommand (w : World) (mg : Str → Option Value) (h : Heap) (Kin : (hd.heap_39 w.params).In h) (G : h.Ns mainGlobals mg) : ∃ C : Addr, mg "InvalidCommand" = some (.ref C) ∧ DL.ExcT (hd.heap_39 w.params) C := by
  refine' ⟨_, PySem.W.mg_of Kin G ?aC, ⟨?hcl, ?hga, ?hgt, ?hsub, ?hdC, ?ha, ?hn, ?htk, ?hm⟩⟩
  (case aC => k_is); (case hcl => first | k_is | kernel_rfl); (case hga => k_is); (case hgt => k_is); (case hsub => k_is); (case hdC => k_is); (case ha => k_is); (case hn => k_is); (case htk => k_is); (case hm => k_is)
theorem KX.v_exc_NotMirrors (w : World) (mg : Str → Option Value) (h : Heap) (Kin : (hd.heap_39 w.params).In h) (G : h.Ns mainGlobals mg) : ∃ C : Addr, mg "NotMirrors" = some (.ref C) ∧ DL.ExcT (hd.heap_39 w.params) C := by
  refine' ⟨_, PySem.W.mg_of Kin G ?aC, ⟨?hcl, ?hga, ?hgt, ?hsub, ?hdC, ?ha, ?hn, ?htk, ?hm⟩⟩
  (case aC => k_is); (case hcl => first | k_is | kernel_rfl); (case hga => k_is); (case hgt => k_is); (case hsub => k_is); (case hdC => k_is); (case ha => k_is); (case hn => k_is); (case htk => k_is); (case hm => k_is)
theorem KX.v_exc_InvalidAngles (w : World) (mg : Str → Option Value) (h : Heap) (Kin : (hd.heap_39 w.params).In h) (G : h.Ns mainGlobals mg) : ∃ C : Addr, mg "InvalidAngles" = some (.ref C) ∧ DL.ExcT (hd.heap_39 w.params) C := by
  refine' ⟨_, PySem.W.mg_of Kin G ?aC, ⟨?hcl, ?hga, ?hgt, ?hsub, ?hdC, ?ha, ?hn, ?htk, ?hm⟩⟩
  (case aC => k_is); (case hcl => first | k_is | kernel_rfl); (case hga => k_is); (case hgt => k_is); (case hsub => k_is); (case hdC => k_is); (case ha => k_is); (case hn => k_is); (case htk => k_is); (case hm => k_is)
theorem KX.v_exc_InvalidRow (w : World) (mg : Str → Option Value) (h : Heap) (Kin : (hd.heap_39 w.params).In h) (G : h.Ns mainGlobals mg) : ∃ C : Addr, mg "InvalidRow" = some (.ref C) ∧ DL.ExcT (hd.heap_39 w.params) C := by
  refine' ⟨_, PySem.W.mg_of Kin G ?aC, ⟨?hcl, ?hga, ?hgt, ?hsub, ?hdC, ?ha, ?hn, ?htk, ?hm⟩⟩
  (case aC => k_is); (case hcl => first | k_is | kernel_rfl); (case hga => k_is); (case hgt => k_is); (case hsub => k_is); (case hdC => k_is); (case ha => k_is); (case hn => k_is); (case htk => k_is); (case hm => k_is)
theorem KX.v_exc_InvalidRows (w : World) (mg : Str → Option Value) (h : Heap) (Kin : (hd.heap_39 w.params).In h) (G : h.Ns mainGlobals mg) : ∃ C : Addr, mg "InvalidRows" = some (.ref C) ∧ DL.ExcT (hd.heap_39 w.params) C := by
  refine' ⟨_, PySem.W.mg_of Kin G ?aC, ⟨?hcl, ?hga, ?hgt, ?hsub, ?hdC, ?ha, ?hn, ?htk, ?hm⟩⟩
  (case aC => k_is); (case hcl => first | k_is | kernel_rfl); (case hga => k_is); (case hgt => k_is); (case hsub => k_is); (case hdC => k_is); (case ha => k_is); (case hn => k_is); (case htk => k_is); (case hm => k_is)
theorem KX.v_exc_InvalidUnknown (w : World) (mg : Str → Option Value) (h : Heap) (Kin : (hd.heap_39 w.params).In h) (G : h.Ns mainGlobals mg) : ∃ C : Addr, mg "InvalidUnknown" = some (.ref C) ∧ DL.ExcT (hd.heap_39 w.params) C := by
  refine' ⟨_, PySem.W.mg_of Kin G ?aC, ⟨?hcl, ?hga, ?hgt, ?hsub, ?hdC, ?ha, ?hn, ?htk, ?hm⟩⟩
  (case aC => k_is); (case hcl => first | k_is | kernel_rfl); (case hga => k_is); (case hgt => k_is); (case hsub => k_is); (case hdC => k_is); (case ha => k_is); (case hn => k_is); (case htk => k_is); (case hm => k_is)
theorem KX.v_exc_InvalidTold (w : World) (mg : Str → Option Value) (h : Heap) (Kin : (hd.heap_39 w.params).In h) (G : h.Ns mainGlobals mg) : ∃ C : Addr, mg "InvalidTold" = some (.ref C) ∧ DL.ExcT (hd.heap_39 w.params) C := by
  refine' ⟨_, PySem.W.mg_of Kin G ?aC, ⟨?hcl, ?hga, ?hgt, ?hsub, ?hdC, ?ha, ?hn, ?htk, ?hm⟩⟩
  (case aC => k_is); (case hcl => first | k_is | kernel_rfl); (case hga => k_is); (case hgt => k_is); (case hsub => k_is); (case hdC => k_is); (case ha => k_is); (case hn => k_is); (case htk => k_is); (case hm => k_is)
theorem KX.v_exc_NotKnown (w : World) (mg : Str → Option Value) (h : Heap) (Kin : (hd.heap_39 w.params).In h) (G : h.Ns mainGlobals mg) : ∃ C : Addr, mg "NotKnown" = some (.ref C) ∧ DL.ExcT (hd.heap_39 w.params) C := by
  refine' ⟨_, PySem.W.mg_of Kin G ?aC, ⟨?hcl, ?hga, ?hgt, ?hsub, ?hdC, ?ha, ?hn, ?htk, ?hm⟩⟩
  (case aC => k_is); (case hcl => first | k_is | kernel_rfl); (case hga => k_is); (case hgt => k_is); (case hsub => k_is); (case hdC => k_is); (case ha => k_is); (case hn => k_is); (case htk => k_is); (case hm => k_is)
theorem KX.v_exc_UnknownName (w : World) (mg : Str → Option Value) (h : Heap) (Kin : (hd.heap_39 w.params).In h) (G : h.Ns mainGlobals mg) : ∃ C : Addr, mg "UnknownName" = some (.ref C) ∧ DL.ExcT (hd.heap_39 w.params) C := by
  refine' ⟨_, PySem.W.mg_of Kin G ?aC, ⟨?hcl, ?hga, ?hgt, ?hsub, ?hdC, ?ha, ?hn, ?htk, ?hm⟩⟩
  (case aC => k_is); (case hcl => first | k_is | kernel_rfl); (case hga => k_is); (case hgt => k_is); (case hsub => k_is); (case hdC => k_is); (case ha => k_is); (case hn => k_is); (case htk => k_is); (case hm => k_is)
theorem KX.v_exc_InUse (w : World) (mg : Str → Option Value) (h : Heap) (Kin : (hd.heap_39 w.params).In h) (G : h.Ns mainGlobals mg) : ∃ C : Addr, mg "InUse" = some (.ref C) ∧ DL.ExcT (hd.heap_39 w.params) C := by
  refine' ⟨_, PySem.W.mg_of Kin G ?aC, ⟨?hcl, ?hga, ?hgt, ?hsub, ?hdC, ?ha, ?hn, ?htk, ?hm⟩⟩
  (case aC => k_is); (case hcl => first | k_is | kernel_rfl); (case hga => k_is); (case hgt => k_is); (case hsub => k_is); (case hdC => k_is); (case ha => k_is); (case hn => k_is); (case htk => k_is); (case hm => k_is)
theorem KX.v_exc_NothingToUndo (w : World) (mg : Str → Option Value) (h : Heap) (Kin : (hd.heap_39 w.params).In h) (G : h.Ns mainGlobals mg) : ∃ C : Addr, mg "NothingToUndo" = some (.ref C) ∧ DL.ExcT (hd.heap_39 w.params) C := by
  refine' ⟨_, PySem.W.mg_of Kin G ?aC, ⟨?hcl, ?hga, ?hgt, ?hsub, ?hdC, ?ha, ?hn, ?htk, ?hm⟩⟩
  (case aC => k_is); (case hcl => first | k_is | kernel_rfl); (case hga => k_is); (case hgt => k_is); (case hsub => k_is); (case hdC => k_is); (case ha => k_is); (case hn => k_is); (case htk => k_is); (case hm => k_is)
theorem KX.v_exc_NotPossible (w : World) (mg : Str → Option Value) (h : Heap) (Kin : (hd.heap_39 w.params).In h) (G : h.Ns mainGlobals mg) : ∃ C : Addr, mg "NotPossible" = some (.ref C) ∧ DL.ExcT (hd.heap_39 w.params) C := by
  refine' ⟨_, PySem.W.mg_of Kin G ?aC, ⟨?hcl, ?hga, ?hgt, ?hsub, ?hdC, ?ha, ?hn, ?htk, ?hm⟩⟩
  (case aC => k_is); (case hcl => first | k_is | kernel_rfl); (case hga => k_is); (case hgt => k_is); (case hsub => k_is); (case hdC => k_is); (case ha => k_is); (case hn => k_is); (case htk => k_is); (case hm => k_is)
theorem KX.v_exc_NotAlike (w : World) (mg : Str → Option Value) (h : Heap) (Kin : (hd.heap_39 w.params).In h) (G : h.Ns mainGlobals mg) : ∃ C : Addr, mg "NotAlike" = some (.ref C) ∧ DL.ExcT (hd.heap_39 w.params) C := by
  refine' ⟨_, PySem.W.mg_of Kin G ?aC, ⟨?hcl, ?hga, ?hgt, ?hsub, ?hdC, ?ha, ?hn, ?htk, ?hm⟩⟩
  (case aC => k_is); (case hcl => first | k_is | kernel_rfl); (case hga => k_is); (case hgt => k_is); (case hsub => k_is); (case hdC => k_is); (case ha => k_is); (case hn => k_is); (case htk => k_is); (case hm => k_is)
theorem KX.v_exc_NotShortest (w : World) (mg : Str → Option Value) (h : Heap) (Kin : (hd.heap_39 w.params).In h) (G : h.Ns mainGlobals mg) : ∃ C : Addr, mg "NotShortest" = some (.ref C) ∧ DL.ExcT (hd.heap_39 w.params) C := by
  refine' ⟨_, PySem.W.mg_of Kin G ?aC, ⟨?hcl, ?hga, ?hgt, ?hsub, ?hdC, ?ha, ?hn, ?htk, ?hm⟩⟩
  (case aC => k_is); (case hcl => first | k_is | kernel_rfl); (case hga => k_is); (case hgt => k_is); (case hsub => k_is); (case hdC => k_is); (case ha => k_is); (case hn => k_is); (case htk => k_is); (case hm => k_is)
theorem KX.v_exc_NoMove (w : World) (mg : Str → Option Value) (h : Heap) (Kin : (hd.heap_39 w.params).In h) (G : h.Ns mainGlobals mg) : ∃ C : Addr, mg "NoMove" = some (.ref C) ∧ DL.ExcT (hd.heap_39 w.params) C := by
  refine' ⟨_, PySem.W.mg_of Kin G ?aC, ⟨?hcl, ?hga, ?hgt, ?hsub, ?hdC, ?ha, ?hn, ?htk, ?hm⟩⟩
  (case aC => k_is); (case hcl => first | k_is | kernel_rfl); (case hga => k_is); (case hgt => k_is); (case hsub => k_is); (case hdC => k_is); (case ha => k_is); (case hn => k_is); (case htk => k_is); (case hm => k_is)
theorem KX.v_exc_TooMany (w : World) (mg : Str → Option Value) (h : Heap) (Kin : (hd.heap_39 w.params).In h) (G : h.Ns mainGlobals mg) : ∃ C : Addr, mg "TooMany" = some (.ref C) ∧ DL.ExcT (hd.heap_39 w.params) C := by
  refine' ⟨_, PySem.W.mg_of Kin G ?aC, ⟨?hcl, ?hga, ?hgt, ?hsub, ?hdC, ?ha, ?hn, ?htk, ?hm⟩⟩
  (case aC => k_is); (case hcl => first | k_is | kernel_rfl); (case hga => k_is); (case hgt => k_is); (case hsub => k_is); (case hdC => k_is); (case ha => k_is); (case hn => k_is); (case htk => k_is); (case hm => k_is)
theorem KX.v_exc_Broken (w : World) (mg : Str → Option Value) (h : Heap) (Kin : (hd.heap_39 w.params).In h) (G : h.Ns mainGlobals mg) : ∃ C : Addr, mg "Broken" = some (.ref C) ∧ DL.ExcT (hd.heap_39 w.params) C := by
  refine' ⟨_, PySem.W.mg_of Kin G ?aC, ⟨?hcl, ?hga, ?hgt, ?hsub, ?hdC, ?ha, ?hn, ?htk, ?hm⟩⟩
  (case aC => k_is); (case hcl => first | k_is | kernel_rfl); (case hga => k_is); (case hgt => k_is); (case hsub => k_is); (case hdC => k_is); (case ha => k_is); (case hn => k_is); (case htk => k_is); (case hm => k_is)
theorem KX.v_ko_NotKnown (w : World) (mg : Str → Option Value) (h : Heap) (Kin : (hd.heap_39 w.params).In h) (G : h.Ns mainGlobals mg) : DL.KtC (hd.heap_39 w.params) mg KX.ups KX.own KX.plainTys "NotKnown" := by
  refine' DL.ktC_of (PySem.W.mg_of Kin G ?aC) ?hr ?hp
  (case aC => k_is)
  (case hp => exact DL.allm_nil)
  refine' DL.ktRow (PySem.W.mg_of Kin G ?aC) false ?e (by decide +kernel) ?_
  (case aC => k_is); (case e => kit_is)
  refine' DL.ktRow (PySem.W.mg_of Kin G ?aC) false ?e (by decide +kernel) ?_
  (case aC => k_is); (case e => kit_is)
  refine' DL.ktRow (PySem.W.mg_of Kin G ?aC) false ?e (by decide +kernel) ?_
  (case aC => k_is); (case e => kit_is)
  refine' DL.ktRow (PySem.W.mg_of Kin G ?aC) false ?e (by decide +kernel) ?_
  (case aC => k_is); (case e => kit_is)
  refine' DL.ktRow (PySem.W.mg_of Kin G ?aC) false ?e (by decide +kernel) ?_
  (case aC => k_is); (case e => kit_is)
  refine' DL.ktRow (PySem.W.mg_of Kin G ?aC) false ?e (by decide +kernel) ?_
  (case aC => k_is); (case e => kit_is)
  refine' DL.ktRow (PySem.W.mg_of Kin G ?aC) false ?e (by decide +kernel) ?_
  (case aC => k_is); (case e => kit_is)
  refine' DL.ktRow (PySem.W.mg_of Kin G ?aC) false ?e (by decide +kernel) ?_
  (case aC => k_is); (case e => kit_is)
  refine' DL.ktRow (PySem.W.mg_of Kin G ?aC) false ?e (by decide +kernel) ?_
  (case aC => k_is); (case e => kit_is)
  refine' DL.ktRow (PySem.W.mg_of Kin G ?aC) false ?e (by decide +kernel) ?_
  (case aC => k_is); (case e => kit_is)
  refine' DL.ktRow (PySem.W.mg_of Kin G ?aC) false ?e (by decide +kernel) ?_
  (case aC => k_is); (case e => kit_is)
  refine' DL.ktRow (PySem.W.mg_of Kin G ?aC) false ?e (by decide +kernel) ?_
  (case aC => k_is); (case e => kit_is)
  refine' DL.ktRow (PySem.W.mg_of Kin G ?aC) false ?e (by decide +kernel) ?_
  (case aC => k_is); (case e => kit_is)
  refine' DL.ktRow (PySem.W.mg_of Kin G ?aC) false ?e (by decide +kernel) ?_
  (case aC => k_is); (case e => kit_is)
  refine' DL.ktRow (PySem.W.mg_of Kin G ?aC) false ?e (by decide +kernel) ?_
  (case aC => k_is); (case e => kit_is)
  refine' DL.ktRow (PySem.W.mg_of Kin G ?aC) false ?e (by decide +kernel) ?_
  (case aC => k_is); (case e => kit_is)
  refine' DL.ktRow (PySem.W.mg_of Kin G ?aC) true ?e (by decide +kernel) ?_
  (case aC => k_is); (case e => kit_is)
  refine' DL.ktRow (PySem.W.mg_of Kin G ?aC) true ?e (by decide +kernel) ?_
  (case aC => k_is); (case e => kit_is)
  refine' DL.ktRow (PySem.W.mg_of Kin G ?aC) true ?e (by decide +kernel) ?_
  (case aC => k_is); (case e => kit_is)
  refine' DL.ktRow (PySem.W.mg_of Kin G ?aC) true ?e (by decide +kernel) ?_
  (case aC => k_is); (case e => kit_is)
  refine' DL.ktRow (PySem.W.mg_of Kin G ?aC) false ?e (by decide +kernel) ?_
  (case aC => k_is); (case e => kit_is)
  refine' DL.ktRow (PySem.W.mg_of Kin G ?aC) false ?e (by decide +kernel) ?_
  (case aC => k_is); (case e => kit_is)
  refine' DL.ktRow (PySem.W.mg_of Kin G ?aC) false ?e (by decide +kernel) ?_
  (case aC => k_is); (case e => kit_is)
  refine' DL.ktRow (PySem.W.mg_of Kin G ?aC) false ?e (by decide +kernel) ?_
  (case aC => k_is); (case e => kit_is)
  refine' DL.ktRow (PySem.W.mg_of Kin G ?aC) false ?e (by decide +kernel) ?_
  (case aC => k_is); (case e => kit_is)
  refine' DL.ktRow (PySem.W.mg_of Kin G ?aC) false ?e (by decide +kernel) ?_
  (case aC => k_is); (case e => kit_is)
  exact DL.eachX_nil
theorem KX.v_ko_NotPossible (w : World) (mg : Str → Option Value) (h : Heap) (Kin : (hd.heap_39 w.params).In h) (G : h.Ns mainGlobals mg) : DL.KtC (hd.heap_39 w.params) mg KX.ups KX.own KX.plainTys "NotPossible" := by
  refine' DL.ktC_of (PySem.W.mg_of Kin G ?aC) ?hr ?hp
  (case aC => k_is)
  (case hp => exact DL.allm_nil)
  refine' DL.ktRow (PySem.W.mg_of Kin G ?aC) false ?e (by decide +kernel) ?_
  (case aC => k_is); (case e => kit_is)
  refine' DL.ktRow (PySem.W.mg_of Kin G ?aC) false ?e (by decide +kernel) ?_
  (case aC => k_is); (case e => kit_is)
  refine' DL.ktRow (PySem.W.mg_of Kin G ?aC) false ?e (by decide +kernel) ?_
  (case aC => k_is); (case e => kit_is)
  refine' DL.ktRow (PySem.W.mg_of Kin G ?aC) false ?e (by decide +kernel) ?_
  (case aC => k_is); (case e => kit_is)
  refine' DL.ktRow (PySem.W.mg_of Kin G ?aC) false ?e (by decide +kernel) ?_
  (case aC => k_is); (case e => kit_is)
  refine' DL.ktRow (PySem.W.mg_of Kin G ?aC) false ?e (by decide +kernel) ?_
  (case aC => k_is); (case e => kit_is)
  refine' DL.ktRow (PySem.W.mg_of Kin G ?aC) false ?e (by decide +kernel) ?_
  (case aC => k_is); (case e => kit_is)
  refine' DL.ktRow (PySem.W.mg_of Kin G ?aC) false ?e (by decide +kernel) ?_
  (case aC => k_is); (case e => kit_is)
  refine' DL.ktRow (PySem.W.mg_of Kin G ?aC) false ?e (by decide +kernel) ?_
  (case aC => k_is); (case e => kit_is)
  refine' DL.ktRow (PySem.W.mg_of Kin G ?aC) false ?e (by decide +kernel) ?_
  (case aC => k_is); (case e => kit_is)
  refine' DL.ktRow (PySem.W.mg_of Kin G ?aC) false ?e (by decide +kernel) ?_
  (case aC => k_is); (case e => kit_is)
  refine' DL.ktRow (PySem.W.mg_of Kin G ?aC) false ?e (by decide +kernel) ?_
  (case aC => k_is); (case e => kit_is)
  refine' DL.ktRow (PySem.W.mg_of Kin G ?aC) false ?e (by decide +kernel) ?_
  (case aC => k_is); (case e => kit_is)
  refine' DL.ktRow (PySem.W.mg_of Kin G ?aC) false ?e (by decide +kernel) ?_
  (case aC => k_is); (case e => kit_is)
  refine' DL.ktRow (PySem.W.mg_of Kin G ?aC) false ?e (by decide +kernel) ?_
  (case aC => k_is); (case e => kit_is)
  refine' DL.ktRow (PySem.W.mg_of Kin G ?aC) false ?e (by decide +kernel) ?_
  (case aC => k_is); (case e => kit_is)
  refine' DL.ktRow (PySem.W.mg_of Kin G ?aC) false ?e (by decide +kernel) ?_
  (case aC => k_is); (case e => kit_is)
  refine' DL.ktRow (PySem.W.mg_of Kin G ?aC) false ?e (by decide +kernel) ?_
  (case aC => k_is); (case e => kit_is)
  refine' DL.ktRow (PySem.W.mg_of Kin G ?aC) false ?e (by decide +kernel) ?_
  (case aC => k_is); (case e => kit_is)
  refine' DL.ktRow (PySem.W.mg_of Kin G ?aC) false ?e (by decide +kernel) ?_
  (case aC => k_is); (case e => kit_is)
  refine' DL.ktRow (PySem.W.mg_of Kin G ?aC) true ?e (by decide +kernel) ?_
  (case aC => k_is); (case e => kit_is)
  refine' DL.ktRow (PySem.W.mg_of Kin G ?aC) true ?e (by decide +kernel) ?_
  (case aC => k_is); (case e => kit_is)
  refine' DL.ktRow (PySem.W.mg_of Kin G ?aC) true ?e (by decide +kernel) ?_
  (case aC => k_is); (case e => kit_is)
  refine' DL.ktRow (PySem.W.mg_of Kin G ?aC) true ?e (by decide +kernel) ?_
  (case aC => k_is); (case e => kit_is)
  refine' DL.ktRow (PySem.W.mg_of Kin G ?aC) true ?e (by decide +kernel) ?_
  (case aC => k_is); (case e => kit_is)
  refine' DL.ktRow (PySem.W.mg_of Kin G ?aC) true ?e (by decide +kernel) ?_
  (case aC => k_is); (case e => kit_is)
  exact DL.eachX_nil
theorem KX.v_ko_NotRight (w : World) (mg : Str → Option Value) (h : Heap) (Kin : (hd.heap_39 w.params).In h) (G : h.Ns mainGlobals mg) : DL.KtC (hd.heap_39 w.params) mg KX.ups KX.own KX.plainTys "NotRight" := by
  refine' DL.ktC_of (PySem.W.mg_of Kin G ?aC) ?hr ?hp
  (case aC => k_is)
  (case hp => exact DL.allm_nil)
  refine' DL.ktRow (PySem.W.mg_of Kin G ?aC) true ?e (by decide +kernel) ?_
  (case aC => k_is); (case e => kit_is)
  refine' DL.ktRow (PySem.W.mg_of Kin G ?aC) true ?e (by decide +kernel) ?_
  (case aC => k_is); (case e => kit_is)
  refine' DL.ktRow (PySem.W.mg_of Kin G ?aC) true ?e (by decide +kernel) ?_
  (case aC => k_is); (case e => kit_is)
  refine' DL.ktRow (PySem.W.mg_of Kin G ?aC) true ?e (by decide +kernel) ?_
  (case aC => k_is); (case e => kit_is)
  refine' DL.ktRow (PySem.W.mg_of Kin G ?aC) true ?e (by decide +kernel) ?_
  (case aC => k_is); (case e => kit_is)
  refine' DL.ktRow (PySem.W.mg_of Kin G ?aC) true ?e (by decide +kernel) ?_
  (case aC => k_is); (case e => kit_is)
  refine' DL.ktRow (PySem.W.mg_of Kin G ?aC) true ?e (by decide +kernel) ?_
  (case aC => k_is); (case e => kit_is)
  refine' DL.ktRow (PySem.W.mg_of Kin G ?aC) true ?e (by decide +kernel) ?_
  (case aC => k_is); (case e => kit_is)
  refine' DL.ktRow (PySem.W.mg_of Kin G ?aC) true ?e (by decide +kernel) ?_
  (case aC => k_is); (case e => kit_is)
  refine' DL.ktRow (PySem.W.mg_of Kin G ?aC) true ?e (by decide +kernel) ?_
  (case aC => k_is); (case e => kit_is)
  refine' DL.ktRow (PySem.W.mg_of Kin G ?aC) true ?e (by decide +kernel) ?_
  (case aC => k_is); (case e => kit_is)
  refine' DL.ktRow (PySem.W.mg_of Kin G ?aC) true ?e (by decide +kernel) ?_
  (case aC => k_is); (case e => kit_is)
  refine' DL.ktRow (PySem.W.mg_of Kin G ?aC) true ?e (by decide +kernel) ?_
  (case aC => k_is); (case e => kit_is)
  refine' DL.ktRow (PySem.W.mg_of Kin G ?aC) true ?e (by decide +kernel) ?_
  (case aC => k_is); (case e => kit_is)
  refine' DL.ktRow (PySem.W.mg_of Kin G ?aC) true ?e (by decide +kernel) ?_
  (case aC => k_is); (case e => kit_is)
  refine' DL.ktRow (PySem.W.mg_of Kin G ?aC) true ?e (by decide +kernel) ?_
  (case aC => k_is); (case e => kit_is)
  refine' DL.ktRow (PySem.W.mg_of Kin G ?aC) false ?e (by decide +kernel) ?_
  (case aC => k_is); (case e => kit_is)
  refine' DL.ktRow (PySem.W.mg_of Kin G ?aC) false ?e (by decide +kernel) ?_
  (case aC => k_is); (case e => kit_is)
  refine' DL.ktRow (PySem.W.mg_of Kin G ?aC) false ?e (by decide +kernel) ?_
  (case aC => k_is); (case e => kit_is)
  refine' DL.ktRow (PySem.W.mg_of Kin G ?aC) false ?e (by decide +kernel) ?_
  (case aC => k_is); (case e => kit_is)
  refine' DL.ktRow (PySem.W.mg_of Kin G ?aC) false ?e (by decide +kernel) ?_
  (case aC => k_is); (case e => kit_is)
  refine' DL.ktRow (PySem.W.mg_of Kin G ?aC) false ?e (by decide +kernel) ?_
  (case aC => k_is); (case e => kit_is)
  refine' DL.ktRow (PySem.W.mg_of Kin G ?aC) false ?e (by decide +kernel) ?_
  (case aC => k_is); (case e => kit_is)
  refine' DL.ktRow (PySem.W.mg_of Kin G ?aC) false ?e (by decide +kernel) ?_
  (case aC => k_is); (case e => kit_is)
  refine' DL.ktRow (PySem.W.mg_of Kin G ?aC) false ?e (by decide +kernel) ?_
  (case aC => k_is); (case e => kit_is)
  refine' DL.ktRow (PySem.W.mg_of Kin G ?aC) false ?e (by decide +kernel) ?_
  (case aC => k_is); (case e => kit_is)
  exact DL.eachX_nil
theorem KX.v_kb_ArithmeticError (w : World) (mg : Str → Option Value) (h : Heap) (Kin : (hd.heap_39 w.params).In h) (G : h.Ns mainGlobals mg) : DL.KtT (hd.heap_39 w.params) mg KX.ups KX.own KX.plainTys "ArithmeticError" := by
  refine' ⟨?hr, ?hp⟩
  (case hp => exact DL.allm_nil)
  refine' DL.ktRow (PySem.W.mg_of Kin G ?aC) false ?e (by decide +kernel) ?_
  (case aC => k_is); (case e => kit_is)
  refine' DL.ktRow (PySem.W.mg_of Kin G ?aC) false ?e (by decide +kernel) ?_
  (case aC => k_is); (case e => kit_is)
  refine' DL.ktRow (PySem.W.mg_of Kin G ?aC) false ?e (by decide +kernel) ?_
  (case aC => k_is); (case e => kit_is)
  refine' DL.ktRow (PySem.W.mg_of Kin G ?aC) false ?e (by decide +kernel) ?_
  (case aC => k_is); (case e => kit_is)
  refine' DL.ktRow (PySem.W.mg_of Kin G ?aC) false ?e (by decide +kernel) ?_
  (case aC => k_is); (case e => kit_is)
  refine' DL.ktRow (PySem.W.mg_of Kin G ?aC) false ?e (by decide +kernel) ?_
  (case aC => k_is); (case e => kit_is)
  refine' DL.ktRow (PySem.W.mg_of Kin G ?aC) false ?e (by decide +kernel) ?_
  (case aC => k_is); (case e => kit_is)
  refine' DL.ktRow (PySem.W.mg_of Kin G ?aC) false ?e (by decide +kernel) ?_
  (case aC => k_is); (case e => kit_is)
  refine' DL.ktRow (PySem.W.mg_of Kin G ?aC) false ?e (by decide +kernel) ?_
  (case aC => k_is); (case e => kit_is)
  refine' DL.ktRow (PySem.W.mg_of Kin G ?aC) false ?e (by decide +kernel) ?_
  (case aC => k_is); (case e => kit_is)
  refine' DL.ktRow (PySem.W.mg_of Kin G ?aC) false ?e (by decide +kernel) ?_
  (case aC => k_is); (case e => kit_is)
  refine' DL.ktRow (PySem.W.mg_of Kin G ?aC) false ?e (by decide +kernel) ?_
  (case aC => k_is); (case e => kit_is)
  refine' DL.ktRow (PySem.W.mg_of Kin G ?aC) false ?e (by decide +kernel) ?_
  (case aC => k_is); (case e => kit_is)
  refine' DL.ktRow (PySem.W.mg_of Kin G ?aC) false ?e (by decide +kernel) ?_
  (case aC => k_is); (case e => kit_is)
  refine' DL.ktRow (PySem.W.mg_of Kin G ?aC) false ?e (by decide +kernel) ?_
  (case aC => k_is); (case e => kit_is)
  refine' DL.ktRow (PySem.W.mg_of Kin G ?aC) false ?e (by decide +kernel) ?_
  (case aC => k_is); (case e => kit_is)
  refine' DL.ktRow (PySem.W.mg_of Kin G ?aC) false ?e (by decide +kernel) ?_
  (case aC => k_is); (case e => kit_is)
  refine' DL.ktRow (PySem.W.mg_of Kin G ?aC) false ?e (by decide +kernel) ?_
  (case aC => k_is); (case e => kit_is)
  refine' DL.ktRow (PySem.W.mg_of Kin G ?aC) false ?e (by decide +kernel) ?_
  (case aC => k_is); (case e => kit_is)
  refine' DL.ktRow (PySem.W.mg_of Kin G ?aC) false ?e (by decide +kernel) ?_
  (case aC => k_is); (case e => kit_is)
  refine' DL.ktRow (PySem.W.mg_of Kin G ?aC) true ?e (by decide +kernel) ?_
  (case aC => k_is); (case e => kit_is)
  refine' DL.ktRow (PySem.W.mg_of Kin G ?aC) true ?e (by decide +kernel) ?_
  (case aC => k_is); (case e => kit_is)
  refine' DL.ktRow (PySem.W.mg_of Kin G ?aC) true ?e (by decide +kernel) ?_
  (case aC => k_is); (case e => kit_is)
  refine' DL.ktRow (PySem.W.mg_of Kin G ?aC) true ?e (by decide +kernel) ?_
  (case aC => k_is); (case e => kit_is)
  refine' DL.ktRow (PySem.W.mg_of Kin G ?aC) true ?e (by decide +kernel) ?_
  (case aC => k_is); (case e => kit_is)
  refine' DL.ktRow (PySem.W.mg_of Kin G ?aC) true ?e (by decide +kernel) ?_
  (case aC => k_is); (case e => kit_is)
  exact DL.eachX_nil
theorem KX.v_kb_LookupError (w : World) (mg : Str → Option Value) (h : Heap) (Kin : (hd.heap_39 w.params).In h) (G : h.Ns mainGlobals mg) : DL.KtT (hd.heap_39 w.params) mg KX.ups KX.own KX.plainTys "LookupError" := by
  refine' ⟨?hr, ?hp⟩
  (case hp => exact DL.allm_nil)
  refine' DL.ktRow (PySem.W.mg_of Kin G ?aC) false ?e (by decide +kernel) ?_
  (case aC => k_is); (case e => kit_is)
  refine' DL.ktRow (PySem.W.mg_of Kin G ?aC) false ?e (by decide +kernel) ?_
  (case aC => k_is); (case e => kit_is)
  refine' DL.ktRow (PySem.W.mg_of Kin G ?aC) false ?e (by decide +kernel) ?_
  (case aC => k_is); (case e => kit_is)
  refine' DL.ktRow (PySem.W.mg_of Kin G ?aC) false ?e (by decide +kernel) ?_
  (case aC => k_is); (case e => kit_is)
  refine' DL.ktRow (PySem.W.mg_of Kin G ?aC) false ?e (by decide +kernel) ?_
  (case aC => k_is); (case e => kit_is)
  refine' DL.ktRow (PySem.W.mg_of Kin G ?aC) false ?e (by decide +kernel) ?_
  (case aC => k_is); (case e => kit_is)
  refine' DL.ktRow (PySem.W.mg_of Kin G ?aC) false ?e (by decide +kernel) ?_
  (case aC => k_is); (case e => kit_is)
  refine' DL.ktRow (PySem.W.mg_of Kin G ?aC) false ?e (by decide +kernel) ?_
  (case aC => k_is); (case e => kit_is)
  refine' DL.ktRow (PySem.W.mg_of Kin G ?aC) false ?e (by decide +kernel) ?_
  (case aC => k_is); (case e => kit_is)
  refine' DL.ktRow (PySem.W.mg_of Kin G ?aC) false ?e (by decide +kernel) ?_
  (case aC => k_is); (case e => kit_is)
  refine' DL.ktRow (PySem.W.mg_of Kin G ?aC) false ?e (by decide +kernel) ?_
  (case aC => k_is); (case e => kit_is)
  refine' DL.ktRow (PySem.W.mg_of Kin G ?aC) false ?e (by decide +kernel) ?_
  (case aC => k_is); (case e => kit_is)
  refine' DL.ktRow (PySem.W.mg_of Kin G ?aC) false ?e (by decide +kernel) ?_
  (case aC => k_is); (case e => kit_is)
  refine' DL.ktRow (PySem.W.mg_of Kin G ?aC) false ?e (by decide +kernel) ?_
  (case aC => k_is); (case e => kit_is)
  refine' DL.ktRow (PySem.W.mg_of Kin G ?aC) false ?e (by decide +kernel) ?_
  (case aC => k_is); (case e => kit_is)
  refine' DL.ktRow (PySem.W.mg_of Kin G ?aC) false ?e (by decide +kernel) ?_
  (case aC => k_is); (case e => kit_is)
  refine' DL.ktRow (PySem.W.mg_of Kin G ?aC) true ?e (by decide +kernel) ?_
  (case aC => k_is); (case e => kit_is)
  refine' DL.ktRow (PySem.W.mg_of Kin G ?aC) true ?e (by decide +kernel) ?_
  (case aC => k_is); (case e => kit_is)
  refine' DL.ktRow (PySem.W.mg_of Kin G ?aC) true ?e (by decide +kernel) ?_
  (case aC => k_is); (case e => kit_is)
  refine' DL.ktRow (PySem.W.mg_of Kin G ?aC) true ?e (by decide +kernel) ?_
  (case aC => k_is); (case e => kit_is)
  refine' DL.ktRow (PySem.W.mg_of Kin G ?aC) false ?e (by decide +kernel) ?_
  (case aC => k_is); (case e => kit_is)
  refine' DL.ktRow (PySem.W.mg_of Kin G ?aC) false ?e (by decide +kernel) ?_
  (case aC => k_is); (case e => kit_is)
  refine' DL.ktRow (PySem.W.mg_of Kin G ?aC) false ?e (by decide +kernel) ?_
  (case aC => k_is); (case e => kit_is)
  refine' DL.ktRow (PySem.W.mg_of Kin G ?aC) false ?e (by decide +kernel) ?_
  (case aC => k_is); (case e => kit_is)
  refine' DL.ktRow (PySem.W.mg_of Kin G ?aC) false ?e (by decide +kernel) ?_
  (case aC => k_is); (case e => kit_is)
  refine' DL.ktRow (PySem.W.mg_of Kin G ?aC) false ?e (by decide +kernel) ?_
  (case aC => k_is); (case e => kit_is)
  exact DL.eachX_nil
theorem KX.v_kb_ValueError (w : World) (mg : Str → Option Value) (h : Heap) (Kin : (hd.heap_39 w.params).In h) (G : h.Ns mainGlobals mg) : DL.KtT (hd.heap_39 w.params) mg KX.ups KX.own KX.plainTys "ValueError" := by
  refine' ⟨?hr, ?hp⟩
  (case hp => exact DL.allm_nil)
  refine' DL.ktRow (PySem.W.mg_of Kin G ?aC) true ?e (by decide +kernel) ?_
  (case aC => k_is); (case e => kit_is)
  refine' DL.ktRow (PySem.W.mg_of Kin G ?aC) true ?e (by decide +kernel) ?_
  (case aC => k_is); (case e => kit_is)
  refine' DL.ktRow (PySem.W.mg_of Kin G ?aC) true ?e (by decide +kernel) ?_
  (case aC => k_is); (case e => kit_is)
  refine' DL.ktRow (PySem.W.mg_of Kin G ?aC) true ?e (by decide +kernel) ?_
  (case aC => k_is); (case e => kit_is)
  refine' DL.ktRow (PySem.W.mg_of Kin G ?aC) true ?e (by decide +kernel) ?_
  (case aC => k_is); (case e => kit_is)
  refine' DL.ktRow (PySem.W.mg_of Kin G ?aC) true ?e (by decide +kernel) ?_
  (case aC => k_is); (case e => kit_is)
  refine' DL.ktRow (PySem.W.mg_of Kin G ?aC) true ?e (by decide +kernel) ?_
  (case aC => k_is); (case e => kit_is)
  refine' DL.ktRow (PySem.W.mg_of Kin G ?aC) true ?e (by decide +kernel) ?_
  (case aC => k_is); (case e => kit_is)
  refine' DL.ktRow (PySem.W.mg_of Kin G ?aC) true ?e (by decide +kernel) ?_
  (case aC => k_is); (case e => kit_is)
  refine' DL.ktRow (PySem.W.mg_of Kin G ?aC) true ?e (by decide +kernel) ?_
  (case aC => k_is); (case e => kit_is)
  refine' DL.ktRow (PySem.W.mg_of Kin G ?aC) true ?e (by decide +kernel) ?_
  (case aC => k_is); (case e => kit_is)
  refine' DL.ktRow (PySem.W.mg_of Kin G ?aC) true ?e (by decide +kernel) ?_
  (case aC => k_is); (case e => kit_is)
  refine' DL.ktRow (PySem.W.mg_of Kin G ?aC) true ?e (by decide +kernel) ?_
  (case aC => k_is); (case e => kit_is)
  refine' DL.ktRow (PySem.W.mg_of Kin G ?aC) true ?e (by decide +kernel) ?_
  (case aC => k_is); (case e => kit_is)
  refine' DL.ktRow (PySem.W.mg_of Kin G ?aC) true ?e (by decide +kernel) ?_
  (case aC => k_is); (case e => kit_is)
  refine' DL.ktRow (PySem.W.mg_of Kin G ?aC) true ?e (by decide +kernel) ?_
  (case aC => k_is); (case e => kit_is)
  refine' DL.ktRow (PySem.W.mg_of Kin G ?aC) false ?e (by decide +kernel) ?_
  (case aC => k_is); (case e => kit_is)
  refine' DL.ktRow (PySem.W.mg_of Kin G ?aC) false ?e (by decide +kernel) ?_
  (case aC => k_is); (case e => kit_is)
  refine' DL.ktRow (PySem.W.mg_of Kin G ?aC) false ?e (by decide +kernel) ?_
  (case aC => k_is); (case e => kit_is)
  refine' DL.ktRow (PySem.W.mg_of Kin G ?aC) false ?e (by decide +kernel) ?_
  (case aC => k_is); (case e => kit_is)
  refine' DL.ktRow (PySem.W.mg_of Kin G ?aC) false ?e (by decide +kernel) ?_
  (case aC => k_is); (case e => kit_is)
  refine' DL.ktRow (PySem.W.mg_of Kin G ?aC) false ?e (by decide +kernel) ?_
  (case aC => k_is); (case e => kit_is)
  refine' DL.ktRow (PySem.W.mg_of Kin G ?aC) false ?e (by decide +kernel) ?_
  (case aC => k_is); (case e => kit_is)
  refine' DL.ktRow (PySem.W.mg_of Kin G ?aC) false ?e (by decide +kernel) ?_
  (case aC => k_is); (case e => kit_is)
  refine' DL.ktRow (PySem.W.mg_of Kin G ?aC) false ?e (by decide +kernel) ?_
  (case aC => k_is); (case e => kit_is)
  refine' DL.ktRow (PySem.W.mg_of Kin G ?aC) false ?e (by decide +kernel) ?_
  (case aC => k_is); (case e => kit_is)
  exact DL.eachX_nil
theorem KX.v_kto (w : World) (mg : Str → Option Value) (h : Heap) (Kin : (hd.heap_39 w.params).In h) (G : h.Ns mainGlobals mg) : DL.KtOk (hd.heap_39 w.params) mg KX.kt := by
  exact DL.ktok_of (usedO := KX.usedO) (usedB := KX.usedB) (DL.allm_cons (KX.v_ko_NotKnown w mg h Kin G) (DL.allm_cons (KX.v_ko_NotPossible w mg h Kin G) (DL.allm_cons (KX.v_ko_NotRight w mg h Kin G) DL.allm_nil))) (DL.allm_cons (KX.v_kb_ArithmeticError w mg h Kin G) (DL.allm_cons (KX.v_kb_LookupError w mg h Kin G) (DL.allm_cons (KX.v_kb_ValueError w mg h Kin G) DL.allm_nil)))
theorem KX.v_d__law_every (w : World) (mg : Str → Option Value) (h : Heap) (Kin : (hd.heap_39 w.params).In h) (G : h.Ns mainGlobals mg) : DL.DfB (hd.heap_39 w.params) mg "_law_every" "_law_every" KX.s__law_every ["thing", "other_thing"] := by
  refine' DL.df_of (PySem.W.mg_of Kin G ?aC) ?l ?c ?k ?hb
  (case aC => k_is); (case l => k_is); (case c => k_is); (case k => k_is)
  (case hb => intro kV doc pm an cdv ct us hl; match us, hl with | [a, b], _ => rfl)
theorem KX.v_d__law_named (w : World) (mg : Str → Option Value) (h : Heap) (Kin : (hd.heap_39 w.params).In h) (G : h.Ns mainGlobals mg) : DL.DfB (hd.heap_39 w.params) mg "_law_named" "_law_named" KX.s__law_named ["thing", "other_thing"] := by
  refine' DL.df_of (PySem.W.mg_of Kin G ?aC) ?l ?c ?k ?hb
  (case aC => k_is); (case l => k_is); (case c => k_is); (case k => k_is)
  (case hb => intro kV doc pm an cdv ct us hl; match us, hl with | [a, b], _ => rfl)
theorem KX.v_d__law_has (w : World) (mg : Str → Option Value) (h : Heap) (Kin : (hd.heap_39 w.params).In h) (G : h.Ns mainGlobals mg) : DL.DfB (hd.heap_39 w.params) mg "_law_has" "_law_has" KX.s__law_has ["e", "field"] := by
  refine' DL.df_of (PySem.W.mg_of Kin G ?aC) ?l ?c ?k ?hb
  (case aC => k_is); (case l => k_is); (case c => k_is); (case k => k_is)
  (case hb => intro kV doc pm an cdv ct us hl; match us, hl with | [a, b], _ => rfl)
theorem KX.v_d__law_bases (w : World) (mg : Str → Option Value) (h : Heap) (Kin : (hd.heap_39 w.params).In h) (G : h.Ns mainGlobals mg) : DL.DfB (hd.heap_39 w.params) mg "_law_bases" "_law_bases" KX.s__law_bases ["e"] := by
  refine' DL.df_of (PySem.W.mg_of Kin G ?aC) ?l ?c ?k ?hb
  (case aC => k_is); (case l => k_is); (case c => k_is); (case k => k_is)
  (case hb => intro kV doc pm an cdv ct us hl; match us, hl with | [a], _ => rfl)
theorem KX.v_d__law_caught (w : World) (mg : Str → Option Value) (h : Heap) (Kin : (hd.heap_39 w.params).In h) (G : h.Ns mainGlobals mg) : DL.DfB (hd.heap_39 w.params) mg "_law_caught" "_law_caught" KX.s__law_caught ["thing"] := by
  refine' DL.df_of (PySem.W.mg_of Kin G ?aC) ?l ?c ?k ?hb
  (case aC => k_is); (case l => k_is); (case c => k_is); (case k => k_is)
  (case hb => intro kV doc pm an cdv ct us hl; match us, hl with | [a], _ => rfl)
theorem KX.v_d__law_right (w : World) (mg : Str → Option Value) (h : Heap) (Kin : (hd.heap_39 w.params).In h) (G : h.Ns mainGlobals mg) : DL.DfB (hd.heap_39 w.params) mg "_law_right" "_law_right" KX.s__law_right ["thing", "other_thing"] := by
  refine' DL.df_of (PySem.W.mg_of Kin G ?aC) ?l ?c ?k ?hb
  (case aC => k_is); (case l => k_is); (case c => k_is); (case k => k_is)
  (case hb => intro kV doc pm an cdv ct us hl; match us, hl with | [a, b], _ => rfl)
theorem KX.v_d_law (w : World) (mg : Str → Option Value) (h : Heap) (Kin : (hd.heap_39 w.params).In h) (G : h.Ns mainGlobals mg) : DL.DfB (hd.heap_39 w.params) mg "law" "law" KX.s_law ["script"] := by
  refine' DL.df_of (PySem.W.mg_of Kin G ?aC) ?l ?c ?k ?hb
  (case aC => k_is); (case l => k_is); (case c => k_is); (case k => k_is)
  (case hb => intro kV doc pm an cdv ct us hl; match us, hl with | [a], _ => rfl)

set_option maxRecDepth 100000 in
set_option maxHeartbeats 0 in
theorem PySem.Challenge.cw_braidwords_k01_limits_and_errors_holds : PySem.Challenge.rw_braidwords_k01_limits_and_errors.Holds :=
  hd (by
  k_fill
  refine DL.walkD (l := PySem.Challenge.rw_braidwords_k01_limits_and_errors) (n := 63) (k := 4) (x := "script") (qual := "law") (st := KX.s_law) (N := ["script", "limits_here", "things", "each", "k"]) (g := KX.b_law.1) rfl (by decide) rfl ⟨rfl, by decide, by decide⟩ (fun w h Y => PySem.W.kIn_of Y) KX.sc_law ?D ?B (fun ns _ => KX.law_true ns)
  case D => exact fun w mg h Kin G => KX.v_d_law w mg h Kin G
  case B =>
    intro w mg h Kin G
    obtain ⟨C_NotKnown, m_NotKnown, q_NotKnown⟩ := (KX.v_e_NotKnown w mg h Kin G)
    obtain ⟨C_NotPossible, m_NotPossible, q_NotPossible⟩ := (KX.v_e_NotPossible w mg h Kin G)
    obtain ⟨C_NotRight, m_NotRight, q_NotRight⟩ := (KX.v_e_NotRight w mg h Kin G)
    have c__law_every := DL.cal_of (P := (PySem.Challenge.rw_braidwords_k01_limits_and_errors).prog) (w := w) (base := h) (T := []) (KX.v_d__law_every w mg h Kin G) KX.sc__law_every (fun f cdv A outer s H E c hK hM hT fx hr => KX.b__law_every.2 _ _ _ _ _ _ f (KX.v_x_Broken w mg h Kin G).1 (KX.v_x_InUse w mg h Kin G).1 (KX.v_x_InvalidAngles w mg h Kin G).1 (KX.v_x_InvalidClaim w mg h Kin G).1 (KX.v_x_InvalidCommand w mg h Kin G).1 (KX.v_x_InvalidIndex w mg h Kin G).1 (KX.v_x_InvalidLetter w mg h Kin G).1 (KX.v_x_InvalidLot w mg h Kin G).1 (KX.v_x_InvalidName w mg h Kin G).1 (KX.v_x_InvalidNumber w mg h Kin G).1 (KX.v_x_InvalidRow w mg h Kin G).1 (KX.v_x_InvalidRows w mg h Kin G).1 (KX.v_x_InvalidText w mg h Kin G).1 (KX.v_x_InvalidTold w mg h Kin G).1 (KX.v_x_InvalidUnknown w mg h Kin G).1 (KX.v_x_InvalidWord w mg h Kin G).1 (KX.v_x_NotAlike w mg h Kin G).1 (KX.v_x_NotMirrors w mg h Kin G).1 (KX.v_x_NotShortest w mg h Kin G).1 (KX.v_x_TooMany w mg h Kin G).1 (KX.v_x_UnknownName w mg h Kin G).1 (KX.v_z_NoMove w mg h Kin G) (KX.v_z_NothingToUndo w mg h Kin G) cdv A outer s H E c hK hM hT fx hr)
    have c__law_named := DL.cal_of (P := (PySem.Challenge.rw_braidwords_k01_limits_and_errors).prog) (w := w) (base := h) (T := []) (KX.v_d__law_named w mg h Kin G) KX.sc__law_named (fun f cdv A outer s H E c hK hM hT fx hr => KX.b__law_named.2 _ _ _ _ _ _ f (KX.v_x_Broken w mg h Kin G).2 (KX.v_x_InUse w mg h Kin G).2 (KX.v_x_InvalidAngles w mg h Kin G).2 (KX.v_x_InvalidClaim w mg h Kin G).2 (KX.v_x_InvalidCommand w mg h Kin G).2 (KX.v_x_InvalidIndex w mg h Kin G).2 (KX.v_x_InvalidLetter w mg h Kin G).2 (KX.v_x_InvalidLot w mg h Kin G).2 (KX.v_x_InvalidName w mg h Kin G).2 (KX.v_x_InvalidNumber w mg h Kin G).2 (KX.v_x_InvalidRow w mg h Kin G).2 (KX.v_x_InvalidRows w mg h Kin G).2 (KX.v_x_InvalidText w mg h Kin G).2 (KX.v_x_InvalidTold w mg h Kin G).2 (KX.v_x_InvalidUnknown w mg h Kin G).2 (KX.v_x_InvalidWord w mg h Kin G).2 (KX.v_x_NotAlike w mg h Kin G).2 (KX.v_x_NotMirrors w mg h Kin G).2 (KX.v_x_NotShortest w mg h Kin G).2 (KX.v_x_TooMany w mg h Kin G).2 (KX.v_x_UnknownName w mg h Kin G).2 (KX.v_z_NoMove w mg h Kin G) (KX.v_z_NothingToUndo w mg h Kin G) cdv A outer s H E c hK hM hT fx hr)
    have c__law_has := DL.cal_of (P := (PySem.Challenge.rw_braidwords_k01_limits_and_errors).prog) (w := w) (base := h) (T := []) (KX.v_d__law_has w mg h Kin G) KX.sc__law_has (fun f cdv A outer s H E c hK hM hT fx hr => KX.b__law_has.2 _ _ _ _ _ _ f (DL.xtab_of (DL.each_ex (KX.v_t_given_InvalidText w mg h Kin G) (DL.each_ex (KX.v_t_given_InvalidNumber w mg h Kin G) (DL.each_ex (KX.v_t_given_InvalidName w mg h Kin G) (DL.each_ex (KX.v_t_given_InvalidIndex w mg h Kin G) (DL.each_ex (KX.v_t_given_InvalidWord w mg h Kin G) (DL.each_ex (KX.v_t_given_InvalidLetter w mg h Kin G) (DL.each_ex (KX.v_t_given_InvalidLot w mg h Kin G) (DL.each_ex (KX.v_t_given_InvalidClaim w mg h Kin G) (DL.each_ex (KX.v_t_given_InvalidCommand w mg h Kin G) (DL.each_ex (KX.v_t_given_NotMirrors w mg h Kin G) (DL.each_ex (KX.v_t_given_UnknownName w mg h Kin G) DL.each_nil)))))))))))) (DL.xtab_of (DL.each_ex (KX.v_t_index_InvalidAngles w mg h Kin G) (DL.each_ex (KX.v_t_index_InvalidRow w mg h Kin G) (DL.each_ex (KX.v_t_index_InvalidRows w mg h Kin G) (DL.each_ex (KX.v_t_index_InvalidUnknown w mg h Kin G) (DL.each_ex (KX.v_t_index_InvalidTold w mg h Kin G) (DL.each_ex (KX.v_t_index_InUse w mg h Kin G) (DL.each_ex (KX.v_t_index_Broken w mg h Kin G) DL.each_nil)))))))) (DL.xtab_of (DL.each_ex (KX.v_t_indexes_NotShortest w mg h Kin G) DL.each_nil)) (DL.xtab_of (DL.each_ex (KX.v_t_letter_NotAlike w mg h Kin G) DL.each_nil)) (DL.xtab_of (DL.each_ex (KX.v_t_most_TooMany w mg h Kin G) DL.each_nil)) cdv A outer s H E c hK hM hT fx hr)
    have c__law_bases := DL.cal_of (P := (PySem.Challenge.rw_braidwords_k01_limits_and_errors).prog) (w := w) (base := h) (T := []) (KX.v_d__law_bases w mg h Kin G) KX.sc__law_bases (fun f cdv A outer s H E c hK hM hT fx hr => KX.b__law_bases.2 _ _ _ _ _ _ f (DL.kinds_of (KX.v_ins w mg h Kin G) (DL.each_ex (KX.v_exc_NotRight w mg h Kin G) (DL.each_ex (KX.v_exc_InvalidText w mg h Kin G) (DL.each_ex (KX.v_exc_InvalidNumber w mg h Kin G) (DL.each_ex (KX.v_exc_InvalidName w mg h Kin G) (DL.each_ex (KX.v_exc_InvalidIndex w mg h Kin G) (DL.each_ex (KX.v_exc_InvalidWord w mg h Kin G) (DL.each_ex (KX.v_exc_InvalidLetter w mg h Kin G) (DL.each_ex (KX.v_exc_InvalidLot w mg h Kin G) (DL.each_ex (KX.v_exc_InvalidClaim w mg h Kin G) (DL.each_ex (KX.v_exc_InvalidCommand w mg h Kin G) (DL.each_ex (KX.v_exc_NotMirrors w mg h Kin G) (DL.each_ex (KX.v_exc_InvalidAngles w mg h Kin G) (DL.each_ex (KX.v_exc_InvalidRow w mg h Kin G) (DL.each_ex (KX.v_exc_InvalidRows w mg h Kin G) (DL.each_ex (KX.v_exc_InvalidUnknown w mg h Kin G) (DL.each_ex (KX.v_exc_InvalidTold w mg h Kin G) (DL.each_ex (KX.v_exc_NotKnown w mg h Kin G) (DL.each_ex (KX.v_exc_UnknownName w mg h Kin G) (DL.each_ex (KX.v_exc_InUse w mg h Kin G) (DL.each_ex (KX.v_exc_NothingToUndo w mg h Kin G) (DL.each_ex (KX.v_exc_NotPossible w mg h Kin G) (DL.each_ex (KX.v_exc_NotAlike w mg h Kin G) (DL.each_ex (KX.v_exc_NotShortest w mg h Kin G) (DL.each_ex (KX.v_exc_NoMove w mg h Kin G) (DL.each_ex (KX.v_exc_TooMany w mg h Kin G) (DL.each_ex (KX.v_exc_Broken w mg h Kin G) DL.each_nil))))))))))))))))))))))))))) (KX.v_kto w mg h Kin G) C_NotKnown m_NotKnown C_NotPossible m_NotPossible C_NotRight m_NotRight (KX.v_n_ArithmeticError w mg h Kin G) (KX.v_n_LookupError w mg h Kin G) (KX.v_n_ValueError w mg h Kin G) (KX.v_n_isinstance w mg h Kin G) cdv A outer s H E c hK hM hT fx hr)
    have c__law_caught := DL.cal_of (P := (PySem.Challenge.rw_braidwords_k01_limits_and_errors).prog) (w := w) (base := h) (T := []) (KX.v_d__law_caught w mg h Kin G) KX.sc__law_caught (fun f cdv A outer s H E c hK hM hT fx hr => KX.b__law_caught.2 _ _ _ _ _ _ f C_NotKnown m_NotKnown C_NotPossible m_NotPossible C_NotRight m_NotRight q_NotKnown q_NotPossible q_NotRight (DL.xtab_of (DL.each_ex (KX.v_t_given_InvalidText w mg h Kin G) (DL.each_ex (KX.v_t_given_InvalidNumber w mg h Kin G) (DL.each_ex (KX.v_t_given_InvalidName w mg h Kin G) (DL.each_ex (KX.v_t_given_InvalidIndex w mg h Kin G) (DL.each_ex (KX.v_t_given_InvalidWord w mg h Kin G) (DL.each_ex (KX.v_t_given_InvalidLetter w mg h Kin G) (DL.each_ex (KX.v_t_given_InvalidLot w mg h Kin G) (DL.each_ex (KX.v_t_given_InvalidClaim w mg h Kin G) (DL.each_ex (KX.v_t_given_InvalidCommand w mg h Kin G) (DL.each_ex (KX.v_t_given_NotMirrors w mg h Kin G) (DL.each_ex (KX.v_t_given_UnknownName w mg h Kin G) DL.each_nil)))))))))))) (DL.xtab_of (DL.each_ex (KX.v_t_index_InvalidAngles w mg h Kin G) (DL.each_ex (KX.v_t_index_InvalidRow w mg h Kin G) (DL.each_ex (KX.v_t_index_InvalidRows w mg h Kin G) (DL.each_ex (KX.v_t_index_InvalidUnknown w mg h Kin G) (DL.each_ex (KX.v_t_index_InvalidTold w mg h Kin G) (DL.each_ex (KX.v_t_index_InUse w mg h Kin G) (DL.each_ex (KX.v_t_index_Broken w mg h Kin G) DL.each_nil)))))))) (DL.xtab_of (DL.each_ex (KX.v_t_most_TooMany w mg h Kin G) DL.each_nil)) (KX.v_x_InvalidRows w mg h Kin G).1 (KX.v_x_TooMany w mg h Kin G).1 (KX.v_x_UnknownName w mg h Kin G).1 cdv A outer s H E c hK hM hT fx hr)
    have g__law_right := DL.calG_of (P := (PySem.Challenge.rw_braidwords_k01_limits_and_errors).prog) (w := w) (base := h) (T := []) (KX.v_d__law_right w mg h Kin G) KX.sc__law_right (fun f cdv A outer s H E c hK hM hT fx hgd hr => KX.b__law_right.2 _ _ _ _ _ _ f c__law_bases c__law_caught c__law_every c__law_has c__law_named (KX.v_n_len w mg h Kin G) (KX.v_n_range w mg h Kin G) (KX.v_n_repr w mg h Kin G) (DL.xtab_of (DL.each_ex (KX.v_t_shown_Broken w mg h Kin G) DL.each_nil)) cdv A outer s H E c hK hM hT fx hgd hr)
    exact fun f cdv A outer s H E c hK hM hT fx hgd hr => KX.b_law.2 _ _ _ _ _ _ f g__law_right (KX.v_k_MOST_LENGTH w mg h Kin G) (KX.v_k_MOST_LETTERS w mg h Kin G) (KX.v_k_MOST_TOLD w mg h Kin G) (KX.v_k_MOST_UNKNOWN w mg h Kin G) (KX.v_k_MOST_WORD w mg h Kin G) (KX.v_k_MOST_WORDS w mg h Kin G) (KX.v_n_all w mg h Kin G) (KX.v_n_int w mg h Kin G) (KX.v_n_len w mg h Kin G) (KX.v_n_range w mg h Kin G) cdv A outer s H E c hK hM hT fx hgd hr)
