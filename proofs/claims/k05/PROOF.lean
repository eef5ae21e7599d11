import PyProof.Rows.All
import Wide.All
import OpenK.AllK
import Wide.FinOn
import PySem.Challenge.RW_braidwords_k05_whole_rows_sent
import HandS.ForMost
import HandS.ForExc
import HandS.CallSlots
import HandS.Lambda
import HandS.TupAny
import HandS.IsInst
import HandS.Flow
import HandS.More
import HandS.FStr
import KE.KExcIs
import HandS.ExcInit
import HandS.Property
import HandS.MakeKwOnly
import HandS.Small
import HandS.ClsMeth
import HandS.Defaults
import KE.KExcInit
import HandS.ExcField
import KE.KTryMore
import PyProof.ReprRoads
import PyProof.CallFns
import HandS.Ends
import KE.KExcSuper
import HandS.Replace
import HandS.Style
import PyProof.Rows.StrRev
import HandS.DictComp
import HandS.Rev
import HandS.Star
import Flt.Ops
import KE.GoesEnum
import KE.GoesZip
import KE.KUnpackStar
import HandS.MapJoin
import HandS.Wide
import HandS.TupLe
import HandS.Strs
import KE.KExcLine
import KE.RegKIsAll
import KE.RegKTryMore
import KE.RegKSuper
import PyProof.ReprLen
import PyProof.FitsInt
import PyProof.P3Eq
set_option Elab.async false
set_option linter.all false
set_option maxRecDepth 100000
set_option maxHeartbeats 4000000
/-! DL1: a layer of plain data over HandS. A value in the heap stands for a datum D; slots hold data; the code is read as a function of data. -/
namespace DL
open PySem PySem.Spec PyProof.Rows L2

/-- plain data: what a value stands for (rol: a list that is only read: the script, a list of the module) -/
inductive D where
  | non | bl (b : Bool) | int (i : Int) | str (x : Str)
  | lst (ds : List D) | rol (ds : List D) | tup (ds : List D) | dct (kvs : List (Key × D))
  | ob (c : Str) (fs : List (Str × D)) | ex (c : Str) (fs : List (Str × D))
  /-- a built-in type, a class of the text -/
  | ty (n : String) | cl (c : Str)

/-- an exception that is kept: its class at C, its own dict at d -/
def exv (a C d : Addr) : HO := .ext fun h => ∃ (oe : Obj) (vs : Array Value), h.get? a = some oe ∧ oe.cls = .ref C ∧ oe.dict = some d ∧ oe.data = .fields vs

/-- .. that has no dict -/
def exn (a C : Addr) : HO := .ext fun h => ∃ (oe : Obj) (vs : Array Value), h.get? a = some oe ∧ oe.cls = .ref C ∧ oe.dict = none ∧ oe.data = .fields vs

section
variable (K : PySem.W.Frag) (mg : Str → Option Value) (F : Hp)
mutual
inductive Dt : V → D → Prop
  | non : Dt .non .non
  | bl (b : Bool) : Dt (.bl b) (.bl b)
  | int (i : Int) : Dt (.int i) (.int i)
  | str (x : Str) : Dt (.str x) (.str x)
  | lst {a : Addr} {xs : List V} {ds : List D} (h : F a = some (.lst xs)) (t : Dts xs ds) : Dt (.ref a) (.lst ds)
  | rol {a : Addr} {xs : List V} {ds : List D} (h : SqL K F a xs) (t : Dts xs ds) : Dt (.ref a) (.rol ds)
  | tup {a : Addr} {xs : List V} {ds : List D} (h : SqT K F a xs) (t : Dts xs ds) : Dt (.ref a) (.tup ds)
  | dct {a : Addr} {od : Obj} {kvs : List (Key × V)} {kds : List (Key × D)} (h : F a = some (.frz od (.dK kvs))) (k : kvs.map (·.1) = kds.map (·.1)) (t : Dts (kvs.map (·.2)) (kds.map (·.2))) : Dt (.ref a) (.dct kds)
  | ob {a C dx : Addr} {c : Str} {fs : List (Str × V)} {ds : List (Str × D)} (m : mg c = some (.ref C)) (h : F a = some (.ins C dx fs)) (k : fs.map (·.1) = ds.map (·.1)) (t : Dts (fs.map (·.2)) (ds.map (·.2))) : Dt (.ref a) (.ob c ds)
  | ty (n : String) : Dt (.ty n) (.ty n)
  | cl {C : Addr} {c : Str} (m : mg c = some (.ref C)) : Dt (.ref C) (.cl c)
  | ex {a C d : Addr} {c : Str} {fs : List (Str × V)} {ds : List (Str × D)} (m : mg c = some (.ref C)) (h : F a = some (exv a C d)) (hd : F d = some (.xd fs)) (k : fs.map (·.1) = ds.map (·.1)) (t : Dts (fs.map (·.2)) (ds.map (·.2))) : Dt (.ref a) (.ex c ds)
  | ex0 {a C : Addr} {c : Str} (m : mg c = some (.ref C)) (h : F a = some (exn a C)) : Dt (.ref a) (.ex c [])
inductive Dts : List V → List D → Prop
  | nil : Dts [] []
  | cons {v : V} {vs : List V} {d : D} {ds : List D} (h : Dt v d) (t : Dts vs ds) : Dts (v :: vs) (d :: ds)
end
end

def Le (F F' : Hp) : Prop := ∀ a o, F a = some o → F' a = some o
theorem Le.refl (F : Hp) : Le F F := fun _ _ h => h
theorem Le.trans {F G H : Hp} (a : Le F G) (b : Le G H) : Le F H := fun c o h => b c o (a c o h)
section
variable {K : PySem.W.Frag} {mg : Str → Option Value} {F F' : Hp}
theorem SqL.le {a : Addr} {xs : List V} (l : Le F F') (h : SqL K F a xs) : SqL K F' a xs := by
  rcases h with (h | ⟨o, h⟩) | h
  · exact .inl (.inl (l _ _ h))
  · exact .inl (.inr ⟨o, l _ _ h⟩)
  · exact .inr h
theorem SqT.le {a : Addr} {xs : List V} (l : Le F F') (h : SqT K F a xs) : SqT K F' a xs := by
  rcases h with (h | ⟨o, h⟩) | h
  · exact .inl (.inl (l _ _ h))
  · exact .inl (.inr ⟨o, l _ _ h⟩)
  · exact .inr h
mutual
theorem Dt.le (l : Le F F') : ∀ {v : V} {d : D}, Dt K mg F v d → Dt K mg F' v d
  | _, _, .non => .non
  | _, _, .bl b => .bl b
  | _, _, .int i => .int i
  | _, _, .str x => .str x
  | _, _, .lst h t => .lst (l _ _ h) (t.le l)
  | _, _, .rol h t => .rol (SqL.le l h) (t.le l)
  | _, _, .tup h t => .tup (SqT.le l h) (t.le l)
  | _, _, .dct h k t => .dct (l _ _ h) k (t.le l)
  | _, _, .ob m h k t => .ob m (l _ _ h) k (t.le l)
  | _, _, .ex m h hd k t => .ex m (l _ _ h) (l _ _ hd) k (t.le l)
  | _, _, .ex0 m h => .ex0 m (l _ _ h)
  | _, _, .ty n => .ty n
  | _, _, .cl m => .cl m
theorem Dts.le (l : Le F F') : ∀ {vs : List V} {ds : List D}, Dts K mg F vs ds → Dts K mg F' vs ds
  | _, _, .nil => .nil
  | _, _, .cons h t => .cons (h.le l) (t.le l)
end
theorem Dts.length : ∀ {vs : List V} {ds : List D}, Dts K mg F vs ds → vs.length = ds.length
  | _, _, .nil => rfl
  | _, _, .cons _ t => congrArg (· + 1) t.length
theorem Dts.append : ∀ {vs ws : List V} {ds es : List D}, Dts K mg F vs ds → Dts K mg F ws es → Dts K mg F (vs ++ ws) (ds ++ es)
  | _, _, _, _, .nil, r => r
  | _, _, _, _, .cons h t, r => .cons h (t.append r)
theorem Dts.get : ∀ {vs : List V} {ds : List D} {i : Nat} {d : D}, Dts K mg F vs ds → ds[i]? = some d → ∃ v, vs[i]? = some v ∧ Dt K mg F v d
  | _, _, _, _, .nil, e => by simp at e
  | _, _, 0, _, .cons h _, e => by simp at e; subst e; exact ⟨_, rfl, h⟩
  | _, _, i + 1, d, .cons _ t, e => by
    obtain ⟨v, h1, h2⟩ := Dts.get (i := i) (d := d) t (by simpa using e)
    exact ⟨v, by simpa using h1, h2⟩
theorem Dts.getV : ∀ {vs : List V} {ds : List D} {i : Nat} {v : V}, Dts K mg F vs ds → vs[i]? = some v → ∃ d, ds[i]? = some d ∧ Dt K mg F v d
  | _, _, _, _, .nil, e => by simp at e
  | _, _, 0, _, .cons h _, e => by simp at e; subst e; exact ⟨_, rfl, h⟩
  | _, _, i + 1, v, .cons _ t, e => by
    obtain ⟨d, h1, h2⟩ := Dts.getV (i := i) (v := v) t (by simpa using e)
    exact ⟨d, by simpa using h1, h2⟩
theorem Dts.set {v : V} {d : D} (r : Dt K mg F v d) : ∀ {vs : List V} {ds : List D} (i : Nat), Dts K mg F vs ds → Dts K mg F (vs.set i v) (ds.set i d)
  | _, _, _, .nil => .nil
  | _, _, 0, .cons _ t => .cons r t
  | _, _, i + 1, .cons h t => .cons h (Dts.set r i t)
theorem Dts.take : ∀ {vs : List V} {ds : List D} (n : Nat), Dts K mg F vs ds → Dts K mg F (vs.take n) (ds.take n)
  | _, _, 0, _ => .nil
  | _, _, _ + 1, .nil => .nil
  | _, _, n + 1, .cons h t => .cons h (Dts.take n t)
theorem Dts.drop : ∀ {vs : List V} {ds : List D} (n : Nat), Dts K mg F vs ds → Dts K mg F (vs.drop n) (ds.drop n)
  | _, _, 0, h => h
  | _, _, _ + 1, .nil => .nil
  | _, _, n + 1, .cons _ t => Dts.drop n t
theorem Dts.reverse {vs : List V} {ds : List D} (h : Dts K mg F vs ds) : Dts K mg F vs.reverse ds.reverse := by
  induction vs generalizing ds with
  | nil => cases h; exact .nil
  | cons v vs ih =>
    cases h with
    | cons h t => rw [List.reverse_cons, List.reverse_cons]; exact (ih t).append (.cons h .nil)
end

/-! ### slots, outcomes -/
/-- a slot: not told; a datum; a list or dict of the def's own that nothing else knows; a list of the caller's that the def changes -/
inductive Sl where
  | un | im (d : D) | ow (d : D) | bo (d : D)
abbrev Sls := List Sl

/-- an end: a value and the slots; an exception; nothing said -/
inductive Ret (α : Type) where
  | ok (a : α) (ρ : Sls) | er (c : Str) (fs : List (Str × D)) (ρ : Sls) | no
abbrev M (α : Type) := Sls → Ret α
def M.ret {α : Type} (a : α) : M α := fun ρ => .ok a ρ
def M.bind {α β : Type} (m : M α) (k : α → M β) : M β := fun ρ => match m ρ with
  | .ok a ρ' => k a ρ'
  | .er c fs ρ' => .er c fs ρ'
  | .no => .no
def M.no {α : Type} : M α := fun _ => .no
/-- a value if it is told -/
def M.of {α : Type} : Option α → M α
  | some a => .ret a
  | none => .no
instance : Monad M where
  pure := M.ret
  bind := M.bind

/-- what stands fast while a def runs: the written part, the module's names, the heap and what was frozen at its start, the list of the caller's that it may change, what is wished of exceptions -/
structure Fc where
  K : PySem.W.Frag
  mg : Str → Option Value
  /-- the tables of code objects that lambdas are found in: they may grow -/
  T : List (Addr × Str)
  G : Hp
  F0 : Hp
  B : Option Addr
  W : WX

abbrev Fc.Dt (c : Fc) (F : Hp) := DL.Dt c.K c.mg F
abbrev Fc.Dts (c : Fc) (F : Hp) := DL.Dts c.K c.mg F

/-- a list or dict that may still change -/
def OwnOk (K : PySem.W.Frag) (mg : Str → Option Value) (F H : Hp) (p : Addr) : D → Prop
  | .lst ds => ∃ xs, H p = some (.lst xs) ∧ Dts K mg F xs ds
  | .dct kds => ∃ kvs, H p = some (.dK kvs) ∧ kvs.map (·.1) = kds.map (·.1) ∧ Dts K mg F (kvs.map (·.2)) (kds.map (·.2))
  | .ob c ds => ∃ C dx fs, mg c = some (.ref C) ∧ H p = some (.ins C dx fs) ∧ fs.map (·.1) = ds.map (·.1) ∧ Dts K mg F (fs.map (·.2)) (ds.map (·.2))
  | _ => False
theorem OwnOk.le {K : PySem.W.Frag} {mg : Str → Option Value} {F F' H H' : Hp} {p : Addr} {d : D} (h : OwnOk K mg F H p d) (l : Le F F') (k : ∀ o, H p = some o → H' p = some o) : OwnOk K mg F' H' p d := by
  cases d with
  | lst ds => obtain ⟨xs, e, t⟩ := h; exact ⟨xs, k _ e, t.le l⟩
  | dct kds => obtain ⟨kvs, e, q, t⟩ := h; exact ⟨kvs, k _ e, q, t.le l⟩
  | ob c ds => obtain ⟨C, dx, fs, m, e, q, t⟩ := h; exact ⟨C, dx, fs, m, k _ e, q, t.le l⟩
  | _ => exact h.elim
theorem OwnOk.there {K : PySem.W.Frag} {mg : Str → Option Value} {F H : Hp} {p : Addr} {d : D} (h : OwnOk K mg F H p d) : ∃ o, H p = some o := by
  cases d with
  | lst ds => obtain ⟨xs, e, t⟩ := h; exact ⟨_, e⟩
  | dct kds => obtain ⟨kvs, e, q, t⟩ := h; exact ⟨_, e⟩
  | ob c ds => obtain ⟨C, dx, fs, m, e, q, t⟩ := h; exact ⟨_, e⟩
  | _ => exact h.elim

def SlOk (c : Fc) (F H : Hp) (o : Option (Option V)) : Option Sl → Prop
  | some (.im d) => ∃ v, o = some (some v) ∧ c.Dt F v d
  | some (.ow d) => ∃ p, o = some (some (.ref p)) ∧ F p = none ∧ c.G p = none ∧ OwnOk c.K c.mg F H p d
  | some (.bo d) => ∃ p, o = some (some (.ref p)) ∧ F p = none ∧ c.B = some p ∧ OwnOk c.K c.mg F H p d
  | _ => True

/-- no table of T -/
def NoT (T : List (Addr × Str)) (a : Addr) : Prop := ∀ p ∈ T, p.1 ≠ a
theorem noT_of {T : List (Addr × Str)} {H : Hp} {a : Addr} {o : HO} (t : LamX.Tabs T H) (e : H a = some o) (n : ∀ ps, o ≠ .tbl ps) : NoT T a := fun p hp z => by
  obtain ⟨ps, h, _⟩ := t p hp
  rw [z, e] at h
  exact n ps (Option.some.inj h)
theorem OwnOk.noT {K : PySem.W.Frag} {mg : Str → Option Value} {F H : Hp} {p : Addr} {d : D} {T : List (Addr × Str)} (h : OwnOk K mg F H p d) (t : LamX.Tabs T H) : NoT T p := by
  cases d with
  | lst ds => obtain ⟨xs, e, _⟩ := h; exact noT_of t e fun ps z => by cases z
  | dct kds => obtain ⟨kvs, e, q, _⟩ := h; exact noT_of t e fun ps z => by cases z
  | ob c ds => obtain ⟨C, dx, fs, m, e, q, _⟩ := h; exact noT_of t e fun ps z => by cases z
  | _ => exact h.elim
/-- the slots stand for ρ -/
structure R (c : Fc) (F H : Hp) (σ : L2.St) (ρ : Sls) : Prop where
  sub : Le F H
  ent : ∀ a o, NoT c.T a → c.G a = some o → c.B ≠ some a → H a = some o
  tab : LamX.Tabs c.T H
  ft : ∀ p ∈ c.T, F p.1 = none
  dom : ∀ a, c.G a ≠ none → H a ≠ none
  frz : ∀ a, c.G a ≠ none → F a = c.F0 a
  bor : ∀ p, c.B = some p → c.G p ≠ none
  len : σ.length = ρ.length
  sl : ∀ i : Nat, SlOk c F H σ[i]? ρ[i]?
  one : ∀ (i : Nat) (d : D), ρ[i]? = some (.bo d) → i = 0
  own : ∀ (i j : Nat) (p : Addr) (d d' : D), ρ[i]? = some (.ow d) → ρ[j]? = some (.ow d') → σ[i]? = some (some (.ref p)) → σ[j]? = some (some (.ref p)) → i = j

/-- a step that only adds: what was tracked stands (but for the tables), what is frozen grows by new objects alone -/
structure Ext (T : List (Addr × Str)) (F H F' H' : Hp) : Prop where
  h : ∀ a o, NoT T a → H a = some o → H' a = some o
  tab : LamX.Tabs T H → LamX.Tabs T H'
  dm : ∀ a, H a ≠ none → H' a ≠ none
  old : ∀ a, H a ≠ none → F' a = F a
  sub : Le F' H'
section
variable {T : List (Addr × Str)}
theorem some_ne {α : Type} {x : Option α} {y : α} (h : x = some y) : x ≠ none := fun z => by rw [z] at h; cases h
theorem ne_some {α : Type} {x : Option α} (h : x ≠ none) : ∃ y, x = some y := by
  cases x with
  | none => exact (h rfl).elim
  | some y => exact ⟨y, rfl⟩
theorem Ext.le {F H F' H' : Hp} (e : Ext T F H F' H') (s : Le F H) : Le F F' := fun a o q => by
  rw [e.old a (some_ne (s a o q))]
  exact q
theorem Ext.refl {F H : Hp} (s : Le F H) : Ext T F H F H := ⟨fun _ _ _ h => h, fun h => h, fun _ h => h, fun _ _ => rfl, s⟩
theorem Ext.trans {F H F1 H1 F2 H2 : Hp} (a : Ext T F H F1 H1) (b : Ext T F1 H1 F2 H2) : Ext T F H F2 H2 :=
  ⟨fun x o n q => b.h x o n (a.h x o n q), fun t => b.tab (a.tab t), fun x q => b.dm x (a.dm x q), fun x q => by rw [b.old x (a.dm x q), a.old x q], b.sub⟩
theorem tabs_new {H : Hp} {p : Addr} {o : HO} (hp : H p = none) (t : LamX.Tabs T H) : LamX.Tabs T (upd H p o) := t.ext fun a u e => by rw [upd_ne (fun z => by rw [z, hp] at e; cases e)]; exact e
theorem Ext.mk' {F H F' H' : Hp} (l : Le H H') (old : ∀ a, H a ≠ none → F' a = F a) (sub : Le F' H') : Ext T F H F' H' :=
  ⟨fun a o _ e => l a o e, fun t => t.ext l, fun a q => by obtain ⟨o, e⟩ := ne_some q; exact some_ne (l a o e), old, sub⟩
theorem Ext.new {F H : Hp} {p : Addr} {o : HO} (s : Le F H) (hp : H p = none) : Ext T F H (upd F p o) (upd H p o) :=
  .mk' (fun a u e => by rw [upd_ne (fun z => by rw [z, hp] at e; cases e)]; exact e) (fun a q => upd_ne (fun z => q (by rw [z]; exact hp))) fun a u e => by
    by_cases z : a = p
    · subst z; rw [upd_same] at e ⊢; exact e
    · rw [upd_ne z] at e ⊢; exact s a u e
/-- a new object that stays the def's own -/
theorem Ext.newO {F H : Hp} {p : Addr} {o : HO} (s : Le F H) (hp : H p = none) : Ext T F H F (upd H p o) :=
  .mk' (fun a u e => by rw [upd_ne (fun z => by rw [z, hp] at e; cases e)]; exact e) (fun a q => rfl) fun a u e => by
    rw [upd_ne (fun z => by subst z; rw [s _ _ e] at hp; cases hp)]; exact s a u e
end

section
variable {c : Fc} {F H F' H' : Hp} {σ : L2.St} {ρ : Sls}
theorem R.ext (r : R c F H σ ρ) (e : Ext c.T F H F' H') : R c F' H' σ ρ where
  sub := e.sub
  ent := fun a o t q n => e.h a o t (r.ent a o t q n)
  tab := e.tab r.tab
  ft := fun p hp => by
    obtain ⟨ps, q, _⟩ := r.tab p hp
    rw [e.old _ (some_ne q)]; exact r.ft p hp
  dom := fun a q => e.dm a (r.dom a q)
  frz := fun a q => by rw [e.old a (r.dom a q)]; exact r.frz a q
  bor := r.bor
  len := r.len
  sl := fun i => by
    have x := r.sl i
    have l := e.le r.sub
    revert x
    cases hs : ρ[i]? with
    | none => exact fun _ => True.intro
    | some s =>
      cases s with
      | un => exact fun _ => True.intro
      | im d => exact fun ⟨v, e1, e2⟩ => ⟨v, e1, e2.le l⟩
      | ow d => exact fun ⟨p, e1, e2, e3, e4⟩ => ⟨p, e1, by
          obtain ⟨o, eo⟩ := e4.there
          rw [e.old p (by rw [eo]; exact fun z => by cases z)]; exact e2, e3, e4.le l fun o q => e.h p o (e4.noT r.tab) q⟩
      | bo d => exact fun ⟨p, e1, e2, e3, e4⟩ => ⟨p, e1, by
          obtain ⟨o, eo⟩ := e4.there
          rw [e.old p (by rw [eo]; exact fun z => by cases z)]; exact e2, e3, e4.le l fun o q => e.h p o (e4.noT r.tab) q⟩
  one := r.one
  own := r.own
end

section
variable {c : Fc} {F H : Hp} {σ : L2.St} {ρ : Sls}
theorem OwnOk.dt {K : PySem.W.Frag} {mg : Str → Option Value} {F H : Hp} {p : Addr} {d : D} {o : HO} (h : OwnOk K mg F H p d) (nd : ∀ ks, d ≠ .dct ks) (e : H p = some o) (hn : F p = none) : Dt K mg (upd F p o) (.ref p) d := by
  have l : Le F (upd F p o) := fun a u q => by rw [upd_ne (fun z => by rw [z, hn] at q; cases q)]; exact q
  cases d with
  | lst ds => obtain ⟨xs, e2, t⟩ := h; rw [e] at e2; cases e2; exact .lst upd_same (t.le l)
  | dct kds => exact (nd kds rfl).elim
  | ob c ds => obtain ⟨C, dx, fs, m, e2, q, t⟩ := h; rw [e] at e2; cases e2; exact .ob m upd_same q (t.le l)
  | _ => exact h.elim
/-- the def's own list becomes a datum: from here on it stays as it is -/
theorem R.freeze {i : Nat} {d : D} (r : R c F H σ ρ) (h : ρ[i]? = some (.ow d)) (nd : ∀ ks, d ≠ .dct ks) : ∃ v F', σ[i]? = some (some v) ∧ Le F F' ∧ R c F' H σ (ρ.set i (.im d)) ∧ c.Dt F' v d := by
  have x := r.sl i
  rw [h] at x
  obtain ⟨p, e1, e2, e3, e4⟩ := x
  obtain ⟨o, eo⟩ := e4.there
  have l : Le F (upd F p o) := fun a u q => by rw [upd_ne (fun z => by rw [z, e2] at q; cases q)]; exact q
  have hi : i < ρ.length := (List.getElem?_eq_some_iff.mp h).1
  refine ⟨.ref p, upd F p o, e1, l, ⟨fun a u q => ?_, r.ent, r.tab, fun q hq => ?_, r.dom, fun a q => ?_, r.bor, by rw [List.length_set]; exact r.len, fun j => ?_, fun j d1 h1 => ?_, fun j k q d1 d2 h1 h2 => ?_⟩, e4.dt nd eo e2⟩
  · by_cases z : a = p
    · subst z; rw [upd_same] at q; cases q; exact eo
    · rw [upd_ne z] at q; exact r.sub a u q
  · rw [upd_ne (e4.noT r.tab q hq)]; exact r.ft q hq
  · have z : a ≠ p := fun z => q (by rw [z]; exact e3)
    rw [upd_ne z]; exact r.frz a q
  · by_cases z : j = i
    · subst z
      rw [List.getElem?_set_self hi]
      exact ⟨.ref p, e1, e4.dt nd eo e2⟩
    · rw [List.getElem?_set_ne (Ne.symm z)]
      have y := r.sl j
      revert y
      cases hs : ρ[j]? with
      | none => exact fun _ => True.intro
      | some s =>
        cases s with
        | un => exact fun _ => True.intro
        | im d => exact fun ⟨v, a1, a2⟩ => ⟨v, a1, a2.le l⟩
        | ow d' => exact fun ⟨q, a1, a2, a3, a4⟩ => ⟨q, a1, by
            rw [upd_ne (fun zz => z (r.own j i p d' d hs h (by rw [a1, zz]) e1))]; exact a2, a3, a4.le l fun _ q => q⟩
        | bo d' => exact fun ⟨q, a1, a2, a3, a4⟩ => ⟨q, a1, by
            rw [upd_ne (fun zz => r.bor q a3 (by rw [zz]; exact e3))]; exact a2, a3, a4.le l fun _ q => q⟩
  · have nj : j ≠ i := fun z => by rw [z, List.getElem?_set_self hi] at h1; cases h1
    rw [List.getElem?_set_ne (Ne.symm nj)] at h1
    exact r.one j d1 h1
  · have nj : j ≠ i := fun z => by rw [z, List.getElem?_set_self hi] at h1; cases h1
    have nk : k ≠ i := fun z => by rw [z, List.getElem?_set_self hi] at h2; cases h2
    rw [List.getElem?_set_ne (Ne.symm nj)] at h1
    rw [List.getElem?_set_ne (Ne.symm nk)] at h2
    exact r.own j k q d1 d2 h1 h2
end

/-- an expression's end -/
def Pst (c : Fc) (σ : L2.St) (F : Hp) (r : Ret D) (Q : VK) : Prop := match r with
  | .ok d ρ' => ∀ v F' H', R c F' H' σ ρ' → Le F F' → c.Dt F' v d → Q v H'
  | .er k fs ρ' => ∀ C dd F' H' fv, c.mg k = some (.ref C) → R c F' H' σ ρ' → Le F F' → F' dd = some (.xd fv) → fv.map (·.1) = fs.map (·.1) → c.Dts F' (fv.map (·.2)) (fs.map (·.2)) → c.W (.ref C) (some dd) σ H'
  | .no => False
/-- a list of expressions' end -/
def Psts (c : Fc) (σ : L2.St) (F : Hp) (r : Ret (List D)) (Q : List V → Hp → Prop) : Prop := match r with
  | .ok ds ρ' => ∀ vs F' H', R c F' H' σ ρ' → Le F F' → c.Dts F' vs ds → Q vs H'
  | .er k fs ρ' => ∀ C dd F' H' fv, c.mg k = some (.ref C) → R c F' H' σ ρ' → Le F F' → F' dd = some (.xd fv) → fv.map (·.1) = fs.map (·.1) → c.Dts F' (fv.map (·.2)) (fs.map (·.2)) → c.W (.ref C) (some dd) σ H'
  | .no => False
/-- a test's end -/
def Pstb (c : Fc) (σ : L2.St) (F : Hp) (r : Ret Bool) (Q : Bool → Hp → Prop) : Prop := match r with
  | .ok b ρ' => ∀ F' H', R c F' H' σ ρ' → Le F F' → Q b H'
  | .er k fs ρ' => ∀ C dd F' H' fv, c.mg k = some (.ref C) → R c F' H' σ ρ' → Le F F' → F' dd = some (.xd fv) → fv.map (·.1) = fs.map (·.1) → c.Dts F' (fv.map (·.2)) (fs.map (·.2)) → c.W (.ref C) (some dd) σ H'
  | .no => False
inductive Out where
  | nx | rt (d : D) | bk | ct
/-- a statement's end -/
def Sst (c : Fc) (F : Hp) (r : Ret Out) (E : Ends) : Prop := match r with
  | .ok .nx ρ' => ∀ σ' F' H', R c F' H' σ' ρ' → Le F F' → E.nx σ' H'
  | .ok (.rt d) ρ' => ∀ σ' v F' H', R c F' H' σ' ρ' → Le F F' → c.Dt F' v d → E.rt v H'
  | .ok .bk ρ' => ∀ σ' F' H', R c F' H' σ' ρ' → Le F F' → E.bk σ' H'
  | .ok .ct ρ' => ∀ σ' F' H', R c F' H' σ' ρ' → Le F F' → E.ct σ' H'
  | .er k fs ρ' => ∀ C dd σ' F' H' fv, c.mg k = some (.ref C) → R c F' H' σ' ρ' → Le F F' → F' dd = some (.xd fv) → fv.map (·.1) = fs.map (·.1) → c.Dts F' (fv.map (·.2)) (fs.map (·.2)) → c.W (.ref C) (some dd) σ' H'
  | .no => False

def tE (c : Fc) (f : M D) : TE := fun σ H Q => ∃ F ρ, R c F H σ ρ ∧ Pst c σ F (f ρ) Q
def tAs (c : Fc) (f : M (List D)) : TA := fun σ H Q => ∃ F ρ, R c F H σ ρ ∧ Psts c σ F (f ρ) Q
def tTe (c : Fc) (f : M Bool) : TT := fun σ H Q => ∃ F ρ, R c F H σ ρ ∧ Pstb c σ F (f ρ) Q
def tSt (c : Fc) (g : M Out) : TS := fun E σ H => ∃ F ρ, R c F H σ ρ ∧ Sst c F (g ρ) E

/-- the def's frame constants fit the context -/
structure Fits (X : Cx) (c : Fc) : Prop where
  k : X.K = c.K
  mg : X.mg = c.mg
  tk : Takes X c.W

/-- the readings -/
def DE (X : Cx) (c : Fc) (e : Expr) (f : M D) : Prop := PE X e (tE c f)
def DA (X : Cx) (c : Fc) (es : List Expr) (f : M (List D)) : Prop := PA X es (tAs c f)
def DT (X : Cx) (c : Fc) (e : Expr) (f : M Bool) : Prop := PT X e (tTe c f)
def DS (X : Cx) (c : Fc) (s : Stmt) (g : M Out) : Prop := PS X s (tSt c g)
def DSs (X : Cx) (c : Fc) (s : List Stmt) (g : M Out) : Prop := PSs X s (tSt c g)

section
variable {X : Cx} {c : Fc} {F F1 H : Hp} {σ : L2.St} {ρ : Sls}
theorem PEw {e : Expr} {t t' : TE} (h : PE X e t) (w : ∀ σ H Q, t' σ H Q → t σ H Q) : PE X e t' := ⟨fun pins s σ H Q I q => h.run pins s σ H Q I (w _ _ _ q)⟩
theorem PAw {e : List Expr} {t t' : TA} (h : PA X e t) (w : ∀ σ H Q, t' σ H Q → t σ H Q) : PA X e t' := ⟨fun pos pins s σ H Q I q => h.run pos pins s σ H Q I (w _ _ _ q)⟩
theorem PTw {e : Expr} {t t' : TT} (h : PT X e t) (w : ∀ σ H Q, t' σ H Q → t σ H Q) : PT X e t' := ⟨fun pins s σ H Q I q => h.run pins s σ H Q I (w _ _ _ q)⟩
theorem PWw {e : Expr} {t t' : TT} (h : PW X e t) (w : ∀ σ H Q, t' σ H Q → t σ H Q) : PW X e t' := ⟨fun wh pins s σ H Q I q => h.run wh pins s σ H Q I (w _ _ _ q)⟩
theorem PSw {e : Stmt} {t t' : TS} (h : PS X e t) (w : ∀ D σ H, t' D σ H → t D σ H) : PS X e t' := ⟨fun pins s σ H Q I q => h.run pins s σ H Q I (w _ _ _ q)⟩
theorem PSsw {e : List Stmt} {t t' : TS} (h : PSs X e t) (w : ∀ D σ H, t' D σ H → t D σ H) : PSs X e t' := ⟨fun pins s σ H Q I q => h.run pins s σ H Q I (w _ _ _ q)⟩

theorem Pst.mono {r : Ret D} {Q Q' : VK} (h : Pst c σ F r Q) (l : Le F F1) (q : ∀ v H, Q v H → Q' v H) : Pst c σ F1 r Q' := by
  cases r with
  | ok d ρ' => exact fun v F' H' a b e => q _ _ (h v F' H' a (l.trans b) e)
  | er k fs ρ' => exact fun C dd F' H' fv m a b e1 e2 e3 => h C dd F' H' fv m a (l.trans b) e1 e2 e3
  | no => exact h
theorem Psts.mono {r : Ret (List D)} {Q Q' : List V → Hp → Prop} (h : Psts c σ F r Q) (l : Le F F1) (q : ∀ v H, Q v H → Q' v H) : Psts c σ F1 r Q' := by
  cases r with
  | ok d ρ' => exact fun v F' H' a b e => q _ _ (h v F' H' a (l.trans b) e)
  | er k fs ρ' => exact fun C dd F' H' fv m a b e1 e2 e3 => h C dd F' H' fv m a (l.trans b) e1 e2 e3
  | no => exact h
theorem Pstb.mono {r : Ret Bool} {Q Q' : Bool → Hp → Prop} (h : Pstb c σ F r Q) (l : Le F F1) (q : ∀ v H, Q v H → Q' v H) : Pstb c σ F1 r Q' := by
  cases r with
  | ok d ρ' => exact fun F' H' a b => q _ _ (h F' H' a (l.trans b))
  | er k fs ρ' => exact fun C dd F' H' fv m a b e1 e2 e3 => h C dd F' H' fv m a (l.trans b) e1 e2 e3
  | no => exact h
theorem Sst.mono {r : Ret Out} {E : Ends} (h : Sst c F r E) (l : Le F F1) : Sst c F1 r E := by
  cases r with
  | ok o ρ' =>
    cases o with
    | nx => exact fun σ' F' H' a b => h σ' F' H' a (l.trans b)
    | rt d => exact fun σ' v F' H' a b e => h σ' v F' H' a (l.trans b) e
    | bk => exact fun σ' F' H' a b => h σ' F' H' a (l.trans b)
    | ct => exact fun σ' F' H' a b => h σ' F' H' a (l.trans b)
  | er k fs ρ' => exact fun C dd σ' F' H' fv m a b e1 e2 e3 => h C dd σ' F' H' fv m a (l.trans b) e1 e2 e3
  | no => exact h

/-! binding: the first part's end, then the second's -/
theorem Pst.bind {m : M D} {k : D → M D} {Q : VK} (h : Pst c σ F ((m.bind k) ρ) Q) : Pst c σ F (m ρ) fun v H1 => ∃ F1 ρ1 d, R c F1 H1 σ ρ1 ∧ Le F F1 ∧ c.Dt F1 v d ∧ Pst c σ F1 (k d ρ1) Q := by
  unfold M.bind at h
  cases e : m ρ with
  | ok d ρ' => rw [e] at h; exact fun v F' H' a b t => ⟨F', ρ', d, a, b, t, Pst.mono h b fun _ _ q => q⟩
  | er c fs ρ' => rw [e] at h; exact h
  | no => rw [e] at h; exact h
theorem Pst.bindA {m : M (List D)} {k : List D → M D} {Q : VK} (h : Pst c σ F ((m.bind k) ρ) Q) : Psts c σ F (m ρ) fun v H1 => ∃ F1 ρ1 d, R c F1 H1 σ ρ1 ∧ Le F F1 ∧ c.Dts F1 v d ∧ Pst c σ F1 (k d ρ1) Q := by
  unfold M.bind at h
  cases e : m ρ with
  | ok d ρ' => rw [e] at h; exact fun v F' H' a b t => ⟨F', ρ', d, a, b, t, Pst.mono h b fun _ _ q => q⟩
  | er c fs ρ' => rw [e] at h; exact h
  | no => rw [e] at h; exact h
theorem Pst.bindB {m : M Bool} {k : Bool → M D} {Q : VK} (h : Pst c σ F ((m.bind k) ρ) Q) : Pstb c σ F (m ρ) fun b H1 => ∃ F1 ρ1, R c F1 H1 σ ρ1 ∧ Le F F1 ∧ Pst c σ F1 (k b ρ1) Q := by
  unfold M.bind at h
  cases e : m ρ with
  | ok d ρ' => rw [e] at h; exact fun F' H' a b => ⟨F', ρ', a, b, Pst.mono h b fun _ _ q => q⟩
  | er c fs ρ' => rw [e] at h; exact h
  | no => rw [e] at h; exact h
theorem Psts.bind {m : M D} {k : D → M (List D)} {Q : List V → Hp → Prop} (h : Psts c σ F ((m.bind k) ρ) Q) : Pst c σ F (m ρ) fun v H1 => ∃ F1 ρ1 d, R c F1 H1 σ ρ1 ∧ Le F F1 ∧ c.Dt F1 v d ∧ Psts c σ F1 (k d ρ1) Q := by
  unfold M.bind at h
  cases e : m ρ with
  | ok d ρ' => rw [e] at h; exact fun v F' H' a b t => ⟨F', ρ', d, a, b, t, Psts.mono h b fun _ _ q => q⟩
  | er c fs ρ' => rw [e] at h; exact h
  | no => rw [e] at h; exact h
theorem Psts.bindA {m : M (List D)} {k : List D → M (List D)} {Q : List V → Hp → Prop} (h : Psts c σ F ((m.bind k) ρ) Q) : Psts c σ F (m ρ) fun v H1 => ∃ F1 ρ1 d, R c F1 H1 σ ρ1 ∧ Le F F1 ∧ c.Dts F1 v d ∧ Psts c σ F1 (k d ρ1) Q := by
  unfold M.bind at h
  cases e : m ρ with
  | ok d ρ' => rw [e] at h; exact fun v F' H' a b t => ⟨F', ρ', d, a, b, t, Psts.mono h b fun _ _ q => q⟩
  | er c fs ρ' => rw [e] at h; exact h
  | no => rw [e] at h; exact h
theorem Pstb.bind {m : M D} {k : D → M Bool} {Q : Bool → Hp → Prop} (h : Pstb c σ F ((m.bind k) ρ) Q) : Pst c σ F (m ρ) fun v H1 => ∃ F1 ρ1 d, R c F1 H1 σ ρ1 ∧ Le F F1 ∧ c.Dt F1 v d ∧ Pstb c σ F1 (k d ρ1) Q := by
  unfold M.bind at h
  cases e : m ρ with
  | ok d ρ' => rw [e] at h; exact fun v F' H' a b t => ⟨F', ρ', d, a, b, t, Pstb.mono h b fun _ _ q => q⟩
  | er c fs ρ' => rw [e] at h; exact h
  | no => rw [e] at h; exact h
theorem Pstb.bindB {m : M Bool} {k : Bool → M Bool} {Q : Bool → Hp → Prop} (h : Pstb c σ F ((m.bind k) ρ) Q) : Pstb c σ F (m ρ) fun b H1 => ∃ F1 ρ1, R c F1 H1 σ ρ1 ∧ Le F F1 ∧ Pstb c σ F1 (k b ρ1) Q := by
  unfold M.bind at h
  cases e : m ρ with
  | ok d ρ' => rw [e] at h; exact fun F' H' a b => ⟨F', ρ', a, b, Pstb.mono h b fun _ _ q => q⟩
  | er c fs ρ' => rw [e] at h; exact h
  | no => rw [e] at h; exact h
theorem Sst.bind {m : M D} {k : D → M Out} {E : Ends} {σ : L2.St} (h : Sst c F ((m.bind k) ρ) E) : Pst c σ F (m ρ) fun v H1 => ∃ F1 ρ1 d, R c F1 H1 σ ρ1 ∧ Le F F1 ∧ c.Dt F1 v d ∧ Sst c F1 (k d ρ1) E := by
  unfold M.bind at h
  cases e : m ρ with
  | ok d ρ' => rw [e] at h; exact fun v F' H' a b t => ⟨F', ρ', d, a, b, t, Sst.mono h b⟩
  | er c fs ρ' => rw [e] at h; exact fun C dd F' H' fv m a b e1 e2 e3 => h C dd σ F' H' fv m a b e1 e2 e3
  | no => rw [e] at h; exact h
theorem Sst.bindA {m : M (List D)} {k : List D → M Out} {E : Ends} {σ : L2.St} (h : Sst c F ((m.bind k) ρ) E) : Psts c σ F (m ρ) fun v H1 => ∃ F1 ρ1 d, R c F1 H1 σ ρ1 ∧ Le F F1 ∧ c.Dts F1 v d ∧ Sst c F1 (k d ρ1) E := by
  unfold M.bind at h
  cases e : m ρ with
  | ok d ρ' => rw [e] at h; exact fun v F' H' a b t => ⟨F', ρ', d, a, b, t, Sst.mono h b⟩
  | er c fs ρ' => rw [e] at h; exact fun C dd F' H' fv m a b e1 e2 e3 => h C dd σ F' H' fv m a b e1 e2 e3
  | no => rw [e] at h; exact h
theorem Sst.bindB {m : M Bool} {k : Bool → M Out} {E : Ends} {σ : L2.St} (h : Sst c F ((m.bind k) ρ) E) : Pstb c σ F (m ρ) fun b H1 => ∃ F1 ρ1, R c F1 H1 σ ρ1 ∧ Le F F1 ∧ Sst c F1 (k b ρ1) E := by
  unfold M.bind at h
  cases e : m ρ with
  | ok d ρ' => rw [e] at h; exact fun F' H' a b => ⟨F', ρ', a, b, Sst.mono h b⟩
  | er c fs ρ' => rw [e] at h; exact fun C dd F' H' fv m a b e1 e2 e3 => h C dd σ F' H' fv m a b e1 e2 e3
  | no => rw [e] at h; exact h
end
end DL

set_option Elab.async false
set_option linter.all false
set_option maxRecDepth 100000
set_option maxHeartbeats 4000000
/-! DL2: expressions, statements, calls as functions of data. -/
namespace DL
open PySem PySem.Spec PyProof.Rows L2

/-! ### results of a def -/
inductive Res (α : Type) where
  | ok (a : α) | er (c : Str) (fs : List (Str × D)) | no
def M.res {α : Type} (r : Res α) : M α := fun ρ => match r with
  | .ok a => .ok a ρ
  | .er k fs => .er k fs ρ
  | .no => .no
def M.grd {α : Type} (b : Bool) (m : M α) : M α := if b then m else M.no
def endD (K : PySem.W.Frag) (mg : Str → Option Value) (T : List (Addr × Str)) (F H : Hp) (r : Res D) (Q : VK) (E : XK) : Prop := match r with
  | .ok d => ∀ v F' H', Ext T F H F' H' → Dt K mg F' v d → Q v H'
  | .er k fs => ∀ C dd F' H' fv, mg k = some (.ref C) → Ext T F H F' H' → F' dd = some (.xd fv) → fv.map (·.1) = fs.map (·.1) → Dts K mg F' (fv.map (·.2)) (fs.map (·.2)) → E (.ref C) (some dd) H'
  | .no => False
/-- a def's promise: from data to data -/
def spD (K : PySem.W.Frag) (mg : Str → Option Value) (T : List (Addr × Str)) (n : Nat) (f : List D → Res D) : Sp := fun vs H Q E =>
  ∃ F ds, (LamX.Tabs T H ∧ (∀ p ∈ T, F p.1 = none) ∧ Le F H) ∧ Dts K mg F vs ds ∧ ds.length = n ∧ endD K mg T F H (f ds) Q E
/-- a step that may change the object at p too -/
structure ExtB (T : List (Addr × Str)) (p : Addr) (F H F' H' : Hp) : Prop where
  h : ∀ a o, NoT T a → a ≠ p → H a = some o → H' a = some o
  tab : LamX.Tabs T H → LamX.Tabs T H'
  dm : ∀ a, H a ≠ none → H' a ≠ none
  there : H' p ≠ none
  old : ∀ a, H a ≠ none → F' a = F a
  sub : Le F' H'
def endB (K : PySem.W.Frag) (mg : Str → Option Value) (T : List (Addr × Str)) (p : Addr) (F H : Hp) (r : Res (D × D)) (Q : VK) (E : XK) : Prop := match r with
  | .ok (d, t) => ∀ v F' H', ExtB T p F H F' H' → OwnOk K mg F' H' p t → Dt K mg F' v d → Q v H'
  | .er k fs => ∀ C dd F' H' fv, mg k = some (.ref C) → ExtB T p F H F' H' → F' dd = some (.xd fv) → fv.map (·.1) = fs.map (·.1) → Dts K mg F' (fv.map (·.2)) (fs.map (·.2)) → E (.ref C) (some dd) H'
  | .no => False
/-- a def's promise that changes its first argument: a list, a dict, an instance that stands at p -/
def spB (K : PySem.W.Frag) (mg : Str → Option Value) (T : List (Addr × Str)) (n : Nat) (f : D → List D → Res (D × D)) : Sp := fun vs H Q E =>
  ∃ F p t ws ds, vs = .ref p :: ws ∧ (LamX.Tabs T H ∧ (∀ p ∈ T, F p.1 = none) ∧ Le F H) ∧ F p = none ∧ OwnOk K mg F H p t ∧ Dts K mg F ws ds ∧ ds.length + 1 = n ∧ endB K mg T p F H (f t ds) Q E

/-- a body's end as a def's result -/
def resD : Ret Out → Res D
  | .ok (.rt d) _ => .ok d
  | .ok .nx _ => .ok .non
  | .er k fs _ => .er k fs
  | _ => .no
def resB : Ret Out → Res (D × D)
  | .ok (.rt d) (.bo t :: _) => .ok (d, t)
  | .ok .nx (.bo t :: _) => .ok (.non, t)
  | .er k fs _ => .er k fs
  | _ => .no
def slots (n : Nat) (ds : List Sl) : Sls := ds ++ List.replicate (n - ds.length) .un

/-- the context and the def's constants fit -/
structure Fit (X : Cx) (c : Fc) : Prop where
  k : X.K = c.K
  mg : X.mg = c.mg
  tk : Takes X c.W
  /-- the wish doesn't look at the slots -/
  wσ : ∀ cls d σ σ' H, c.W cls d σ H → c.W cls d σ' H

section
variable {P : Program} {w : World} {K : PySem.W.Frag} {mg : Str → Option Value} {base : Heap} {T : List (Addr × Str)}
theorem slots_len {n : Nat} {N : List Str} {ss : List Sl} {vs : List V} (h : vs.length = ss.length) (e : N.length = n) : (L2.start N vs).length = (slots n ss).length := by
  unfold L2.start slots
  simp [h, e]
theorem un_at {n : Nat} {i : Nat} {c : Fc} {F H : Hp} {o : Option (Option V)} : SlOk c F H o (List.replicate n Sl.un)[i]? := by
  rw [List.getElem?_replicate]
  split <;> exact True.intro
theorem slots_get {n : Nat} {N : List Str} {ds : List D} {vs : List V} {F : Hp} {c : Fc} (t : c.Dts F vs ds) (H : Hp) (i : Nat) : SlOk c F H (L2.start N vs)[i]? (slots n (ds.map .im))[i]? := by
  unfold slots L2.start
  by_cases h : i < ds.length
  · have h' : i < vs.length := by rw [t.length]; exact h
    rw [List.getElem?_append_left (l₁ := vs.map some) (by simpa using h'), List.getElem?_append_left (l₁ := ds.map Sl.im) (by simpa using h), List.getElem?_map, List.getElem?_map]
    obtain ⟨d, hd⟩ : ∃ d, ds[i]? = some d := ⟨_, List.getElem?_eq_getElem h⟩
    obtain ⟨v, hv, dt⟩ := t.get hd
    rw [hd, hv]
    exact ⟨v, rfl, dt⟩
  · rw [List.getElem?_append_right (l₁ := ds.map Sl.im) (by simpa using Nat.le_of_not_lt h)]
    exact un_at
theorem slots_im {n : Nat} {ds : List D} {i : Nat} {d : D} : (slots n (ds.map .im))[i]? ≠ some (.ow d) := fun h => by
  unfold slots at h
  have hm := List.mem_of_getElem? h
  rcases List.mem_append.mp hm with z | z
  · obtain ⟨x, _, e⟩ := List.mem_map.mp z; cases e
  · have := (List.mem_replicate.mp z).2; cases this
theorem slots_nb {n : Nat} {ds : List D} {i : Nat} {d : D} : (slots n (ds.map .im))[i]? ≠ some (.bo d) := fun h => by
  unfold slots at h
  have hm := List.mem_of_getElem? h
  rcases List.mem_append.mp hm with z | z
  · obtain ⟨x, _, e⟩ := List.mem_map.mp z; cases e
  · have := (List.mem_replicate.mp z).2; cases this
/-- THE RULE for a def that changes nothing of its caller's -/
theorem fn_spD {x qual : Str} {st : Stmt} {f : Addr} {fd : FuncData} {N ps : List Str} {k : Nat} {g : M Out} (Fn : Fun K x qual st f fd) (S : FnScope N ps (defScope st))
    (hbody : ∀ (cdv : Value) (A : Around) (outer : List Env) (s : Shared) (H : Hp) (E : XK) (c : Fc), c.K = K → c.mg = mg → c.T = T → Fit (cxOf (L2.CX P w) P w K mg base N qual (defScope st) f cdv A outer s H E) c → Room k (A.deeper (envOfC qual (defScope st) s.heap.objs.size f cdv)) →
      DSs (cxOf (L2.CX P w) P w K mg base N qual (defScope st) f cdv A outer s H E) c (defBody st) g) :
    FnOk P w K mg base (L2.CX P w) (k + 1) f fd ps (spD K mg T ps.length fun ds => resD (g (slots N.length (ds.map .im)))) := by
  refine Fn.okX S (fun vs H Q E ⟨F, ds, _, t, hl, _⟩ => by rw [t.length]; exact hl) fun cdv A outer s H vs Q E hr ⟨F, ds, ⟨tb, ft, sub⟩, t, hl, he⟩ => ?_
  refine ⟨_, hbody cdv A outer s H E ⟨K, mg, T, H, F, none, fun cls d _ H => E cls d H⟩ rfl rfl rfl ⟨rfl, rfl, takes_of rfl rfl rfl rfl, fun _ _ _ _ _ h => h⟩ hr, F, slots N.length (ds.map .im), ?_, ?_⟩
  · exact ⟨sub, fun a o _ e _ => e, tb, ft, fun a e => e, fun a _ => rfl, fun _ e => (by cases e), slots_len (by rw [t.length, List.length_map]) rfl, fun i => slots_get t H i, fun i d h1 => (slots_nb h1).elim, fun i j p d d' h1 _ _ _ => (slots_im h1).elim⟩
  · have he : endD K mg T F H (resD (g (slots N.length (ds.map .im)))) Q E := he
    generalize g (slots N.length (ds.map .im)) = r at he
    cases r with
    | ok o ρ' =>
      cases o with
      | nx => exact fun σ' F' H' r l => he .non F' H' ⟨fun a o n e => r.ent a o n e (by intro z; cases z), fun _ => r.tab, r.dom, fun a e => r.frz a e, r.sub⟩ .non
      | rt d => exact fun σ' v F' H' r l dt => he v F' H' ⟨fun a o n e => r.ent a o n e (by intro z; cases z), fun _ => r.tab, r.dom, fun a e => r.frz a e, r.sub⟩ dt
      | bk => exact he.elim
      | ct => exact he.elim
    | er kk fs ρ' => exact fun C dd σ' F' H' fv m r l e1 e2 e3 => he C dd F' H' fv m ⟨fun a o n e => r.ent a o n e (by intro z; cases z), fun _ => r.tab, r.dom, fun a e => r.frz a e, r.sub⟩ e1 e2 e3
    | no => exact he.elim
/-- THE RULE for a def that changes its first argument -/
theorem fn_spB {x qual : Str} {st : Stmt} {f : Addr} {fd : FuncData} {N ps : List Str} {k : Nat} {g : M Out} (Fn : Fun K x qual st f fd) (S : FnScope N ps (defScope st))
    (hbody : ∀ (cdv : Value) (A : Around) (outer : List Env) (s : Shared) (H : Hp) (E : XK) (c : Fc), c.K = K → c.mg = mg → c.T = T → Fit (cxOf (L2.CX P w) P w K mg base N qual (defScope st) f cdv A outer s H E) c → Room k (A.deeper (envOfC qual (defScope st) s.heap.objs.size f cdv)) →
      DSs (cxOf (L2.CX P w) P w K mg base N qual (defScope st) f cdv A outer s H E) c (defBody st) g) :
    FnOk P w K mg base (L2.CX P w) (k + 1) f fd ps (spB K mg T ps.length fun t ds => resB (g (slots N.length (.bo t :: ds.map .im)))) := by
  refine Fn.okX S (fun vs H Q E ⟨F, p, t, ws, ds, ev, _, _, _, tt, hl, _⟩ => by rw [ev, List.length_cons, tt.length]; exact hl) fun cdv A outer s H vs Q E hr ⟨F, p, t, ws, ds, ev, ⟨tb, ft, sub⟩, fp, ow, tt, hl, he⟩ => ?_
  subst ev
  have hp : H p ≠ none := by obtain ⟨o, eo⟩ := ow.there; rw [eo]; exact fun z => by cases z
  refine ⟨_, hbody cdv A outer s H E ⟨K, mg, T, H, F, some p, fun cls d _ H => E cls d H⟩ rfl rfl rfl ⟨rfl, rfl, takes_of rfl rfl rfl rfl, fun _ _ _ _ _ h => h⟩ hr, F, slots N.length (.bo t :: ds.map .im), ?_, ?_⟩
  · refine ⟨sub, fun a o _ e _ => e, tb, ft, fun a e => e, fun a _ => rfl, fun q e => (by cases e; exact hp), slots_len (by rw [List.length_cons, List.length_cons, tt.length, List.length_map]) rfl, fun i => ?_, fun i d h1 => ?_, fun i j p d d' h1 _ _ _ => ?_⟩
    · cases i with
      | zero => exact ⟨p, rfl, fp, rfl, ow⟩
      | succ i =>
        have y := slots_get (c := ⟨K, mg, T, H, F, some p, fun cls d _ H => E cls d H⟩) (N := N.drop 1) (n := N.length - 1) tt H i
        have e1 : (L2.start N (.ref p :: ws))[i + 1]? = (L2.start (N.drop 1) ws)[i]? := by
          unfold L2.start
          rw [List.map_cons, List.cons_append, List.getElem?_cons_succ, List.length_cons, List.length_drop, Nat.sub_sub, Nat.add_comm 1]
        have e2 : (slots N.length (.bo t :: ds.map .im))[i + 1]? = (slots (N.length - 1) (ds.map .im))[i]? := by
          unfold slots
          rw [List.cons_append, List.getElem?_cons_succ, List.length_cons, Nat.sub_sub, Nat.add_comm 1]
        rw [e1, e2]
        exact y
    · cases i with
      | zero => rfl
      | succ i =>
        have e2 : (slots N.length (.bo t :: ds.map .im))[i + 1]? = (slots (N.length - 1) (ds.map .im))[i]? := by
          unfold slots
          rw [List.cons_append, List.getElem?_cons_succ, List.length_cons, Nat.sub_sub, Nat.add_comm 1]
        rw [e2] at h1
        exact (slots_nb h1).elim
    · cases i with
      | zero => cases h1
      | succ i =>
        have e2 : (slots N.length (.bo t :: ds.map .im))[i + 1]? = (slots (N.length - 1) (ds.map .im))[i]? := by
          unfold slots
          rw [List.cons_append, List.getElem?_cons_succ, List.length_cons, Nat.sub_sub, Nat.add_comm 1]
        rw [e2] at h1
        exact (slots_im h1).elim
  · have key : ∀ {σ' : L2.St} {F' H' : Hp} {ρ' : Sls}, R ⟨K, mg, T, H, F, some p, fun cls d _ H => E cls d H⟩ F' H' σ' ρ' → ExtB T p F H F' H' := fun r =>
      ⟨fun a o t n e => r.ent a o t e (fun z => n (by cases z; rfl)), fun _ => r.tab, r.dom, r.dom p hp, fun a e => r.frz a e, r.sub⟩
    have own : ∀ {σ' : L2.St} {F' H' : Hp} {t' : D} {ρ' : Sls}, R ⟨K, mg, T, H, F, some p, fun cls d _ H => E cls d H⟩ F' H' σ' (.bo t' :: ρ') → OwnOk K mg F' H' p t' := fun {σ' F' H' t' ρ'} r => by
      obtain ⟨q, _, _, e, o⟩ := r.sl 0
      have e' : some p = some q := e
      cases e'
      exact o
    have he : endB K mg T p F H (resB (g (slots N.length (.bo t :: ds.map .im)))) Q E := he
    generalize g (slots N.length (.bo t :: ds.map .im)) = r at he
    cases r with
    | ok o ρ' =>
      cases ρ' with
      | nil => cases o <;> exact he.elim
      | cons s ρ' =>
        cases s with
        | bo t' =>
          cases o with
          | nx => exact fun σ' F' H' r l => he .non F' H' (key r) (own r) .non
          | rt d => exact fun σ' v F' H' r l dt => he v F' H' (key r) (own r) dt
          | bk => exact he.elim
          | ct => exact he.elim
        | un => cases o <;> exact he.elim
        | im d => cases o <;> exact he.elim
        | ow d => cases o <;> exact he.elim
    | er kk fs ρ' => exact fun C dd σ' F' H' fv m r l e1 e2 e3 => he C dd F' H' fv m (key r) e1 e2 e3
    | no => exact he.elim
end

/-! ### statements -/
section
variable {X : Cx} {c : Fc}
def M.nx : M Out := M.ret .nx
/-- go on if the statement before ran through -/
def M.seq (m : M Out) (k : M Out) : M Out := m.bind fun o => match o with
  | .nx => k
  | o => M.ret o
theorem dss_nil : DSs X c [] M.nx := PSsw pss_nil fun D σ H ⟨F, ρ, r, h⟩ => h σ F H r (.refl _)
theorem Sst.seq {F : Hp} {ρ : Sls} {m k : M Out} {E : Ends} (h : Sst c F ((m.seq k) ρ) E) : Sst c F (m ρ) { E with nx := fun σ H => ∃ F ρ, R c F H σ ρ ∧ Sst c F (k ρ) E } := by
  unfold M.seq M.bind at h
  cases e : m ρ with
  | ok o ρ' =>
    rw [e] at h
    cases o with
    | nx => exact fun σ' F' H' r l => ⟨F', ρ', r, Sst.mono h l⟩
    | rt d => exact h
    | bk => exact h
    | ct => exact h
  | er k fs ρ' => rw [e] at h; exact h
  | no => rw [e] at h; exact h
theorem dss_cons {st : Stmt} {rest : List Stmt} {g k : M Out} (h1 : DS X c st g) (h2 : DSs X c rest k) : DSs X c (st :: rest) (g.seq k) :=
  PSsw (pss_cons h1 h2) fun D σ H ⟨F, ρ, r, h⟩ => ⟨F, ρ, r, h.seq⟩
theorem dss_one {st : Stmt} {g : M Out} (h1 : DS X c st g) : DSs X c [st] g := pss_one h1
theorem ds_doc {x j pos pos'} : DS X c (.Expr (.Constant (.str x) j pos) pos') M.nx := PSw ps_doc fun D σ H ⟨F, ρ, r, h⟩ => h σ F H r (.refl _)
theorem ds_pass {pos} : DS X c (.Pass pos) M.nx := PSw ps_pass fun D σ H ⟨F, ρ, r, h⟩ => h σ F H r (.refl _)
theorem ds_break {pos} : DS X c (.Break pos) (M.ret .bk) := PSw ps_break fun D σ H ⟨F, ρ, r, h⟩ => h σ F H r (.refl _)
theorem ds_continue {pos} : DS X c (.Continue pos) (M.ret .ct) := PSw ps_continue fun D σ H ⟨F, ρ, r, h⟩ => h σ F H r (.refl _)
theorem ds_ret {e : Expr} {f : M D} {pos} (h : DE X c e f) : DS X c (.Return (some e) pos) (f.bind fun d => M.ret (.rt d)) := PSw (ps_ret h) fun D σ H ⟨F, ρ, r, h⟩ =>
  ⟨F, ρ, r, (Sst.bind (σ := σ) h).mono (.refl _) fun v H1 ⟨F1, ρ1, d, r1, l1, t1, h1⟩ => h1 σ v F1 H1 r1 (.refl _) t1⟩
theorem ds_retN {pos} : DS X c (.Return none pos) (M.ret (.rt .non)) := PSw ps_retN fun D σ H ⟨F, ρ, r, h⟩ => h σ .non F H r (.refl _) .non
theorem ds_expr {e : Expr} {f : M D} {pos} (h : DE X c e f) (hs : swapsWith e none pos.line X.env = pure false := by rfl) : DS X c (.Expr e pos) (f.bind fun _ => M.nx) := PSw (ps_expr h hs) fun D σ H ⟨F, ρ, r, h⟩ =>
  ⟨F, ρ, r, (Sst.bind (σ := σ) h).mono (.refl _) fun v H1 ⟨F1, ρ1, d, r1, l1, t1, h1⟩ => h1 σ F1 H1 r1 (.refl _)⟩
theorem ds_if {t : Expr} {a b : List Stmt} {f : M Bool} {g k : M Out} {pos} (ht : DT X c t f) (ha : DSs X c a g) (hb : DSs X c b k) : DS X c (.If t a b pos) (f.bind fun x => if x then g else k) := PSw (ps_if ht ha hb) fun D σ H ⟨F, ρ, r, h⟩ =>
  ⟨F, ρ, r, (Sst.bindB (σ := σ) h).mono (.refl _) fun v H1 ⟨F1, ρ1, r1, l1, h1⟩ => by
    cases v with
    | true => exact ⟨F1, ρ1, r1, h1⟩
    | false => exact ⟨F1, ρ1, r1, h1⟩⟩

/-- a datum into a slot -/
theorem R.setIm {F H : Hp} {σ : L2.St} {ρ : Sls} {i : Nat} {v : V} {d : D} (r : R c F H σ ρ) (t : c.Dt F v d) : R c F H (σ.set i (some v)) (ρ.set i (.im d)) := by
  by_cases hr : i < ρ.length
  · have hi : i < σ.length := by rw [r.len]; exact hr
    refine ⟨r.sub, r.ent, r.tab, r.ft, r.dom, r.frz, r.bor, by rw [List.length_set, List.length_set]; exact r.len, fun j => ?_, fun j d1 h1 => ?_, fun j k p d1 d2 h1 h2 h3 h4 => ?_⟩
    · by_cases z : j = i
      · subst z
        rw [List.getElem?_set_self hi, List.getElem?_set_self hr]; exact ⟨v, rfl, t⟩
      · rw [List.getElem?_set_ne (Ne.symm z), List.getElem?_set_ne (Ne.symm z)]; exact r.sl j
    · have nj : j ≠ i := fun z => by subst z; rw [List.getElem?_set_self hr] at h1; cases h1
      rw [List.getElem?_set_ne (Ne.symm nj)] at h1
      exact r.one j d1 h1
    · have nj : j ≠ i := fun z => by subst z; rw [List.getElem?_set_self hr] at h1; cases h1
      have nk : k ≠ i := fun z => by subst z; rw [List.getElem?_set_self hr] at h2; cases h2
      rw [List.getElem?_set_ne (Ne.symm nj)] at h1 h3
      rw [List.getElem?_set_ne (Ne.symm nk)] at h2 h4
      exact r.own j k p d1 d2 h1 h2 h3 h4
  · rw [List.set_eq_of_length_le (by rw [r.len]; exact Nat.le_of_not_lt hr), List.set_eq_of_length_le (Nat.le_of_not_lt hr)]
    exact r
/-- a slot is not told any more -/
theorem R.setUn {F H : Hp} {σ : L2.St} {ρ : Sls} {i : Nat} {o : Option V} (r : R c F H σ ρ) : R c F H (σ.set i o) (ρ.set i .un) := by
  by_cases hr : i < ρ.length
  · have hi : i < σ.length := by rw [r.len]; exact hr
    refine ⟨r.sub, r.ent, r.tab, r.ft, r.dom, r.frz, r.bor, by rw [List.length_set, List.length_set]; exact r.len, fun j => ?_, fun j d1 h1 => ?_, fun j k p d1 d2 h1 h2 h3 h4 => ?_⟩
    · by_cases z : j = i
      · subst z
        rw [List.getElem?_set_self hi, List.getElem?_set_self hr]; exact True.intro
      · rw [List.getElem?_set_ne (Ne.symm z), List.getElem?_set_ne (Ne.symm z)]; exact r.sl j
    · have nj : j ≠ i := fun z => by subst z; rw [List.getElem?_set_self hr] at h1; cases h1
      rw [List.getElem?_set_ne (Ne.symm nj)] at h1
      exact r.one j d1 h1
    · have nj : j ≠ i := fun z => by subst z; rw [List.getElem?_set_self hr] at h1; cases h1
      have nk : k ≠ i := fun z => by subst z; rw [List.getElem?_set_self hr] at h2; cases h2
      rw [List.getElem?_set_ne (Ne.symm nj)] at h1 h3
      rw [List.getElem?_set_ne (Ne.symm nk)] at h2 h4
      exact r.own j k p d1 d2 h1 h2 h3 h4
  · rw [List.set_eq_of_length_le (by rw [r.len]; exact Nat.le_of_not_lt hr), List.set_eq_of_length_le (Nat.le_of_not_lt hr)]
    exact r
/-- a new object of the def's own into a slot -/
theorem R.setOw {F H : Hp} {σ : L2.St} {ρ : Sls} {i : Nat} {p : Addr} {d : D} (r : R c F H σ ρ) (hf : F p = none) (hG : c.G p = none) (ow : OwnOk c.K c.mg F H p d) (nu : ∀ (j : Nat) d', ρ[j]? = some (.ow d') → σ[j]? ≠ some (some (.ref p))) :
    R c F H (σ.set i (some (.ref p))) (ρ.set i (.ow d)) := by
  by_cases hr : i < ρ.length
  · have hi : i < σ.length := by rw [r.len]; exact hr
    refine ⟨r.sub, r.ent, r.tab, r.ft, r.dom, r.frz, r.bor, by rw [List.length_set, List.length_set]; exact r.len, fun j => ?_, fun j d1 h1 => ?_, fun j k q d1 d2 h1 h2 h3 h4 => ?_⟩
    · by_cases z : j = i
      · subst z
        rw [List.getElem?_set_self hi, List.getElem?_set_self hr]; exact ⟨p, rfl, hf, hG, ow⟩
      · rw [List.getElem?_set_ne (Ne.symm z), List.getElem?_set_ne (Ne.symm z)]; exact r.sl j
    · have nj : j ≠ i := fun z => by subst z; rw [List.getElem?_set_self hr] at h1; cases h1
      rw [List.getElem?_set_ne (Ne.symm nj)] at h1
      exact r.one j d1 h1
    · by_cases zj : j = i
      · by_cases zk : k = i
        · rw [zj, zk]
        · subst zj
          rw [List.getElem?_set_self hi] at h3
          cases h3
          rw [List.getElem?_set_ne (Ne.symm zk)] at h2 h4
          exact (nu k d2 h2 h4).elim
      · rw [List.getElem?_set_ne (Ne.symm zj)] at h1 h3
        by_cases zk : k = i
        · subst zk
          rw [List.getElem?_set_self hi] at h4
          cases h4
          exact (nu j d1 h1 h3).elim
        · rw [List.getElem?_set_ne (Ne.symm zk)] at h2 h4
          exact r.own j k q d1 d2 h1 h2 h3 h4
  · rw [List.set_eq_of_length_le (by rw [r.len]; exact Nat.le_of_not_lt hr), List.set_eq_of_length_le (Nat.le_of_not_lt hr)]
    exact r
/-- what no own slot holds: an address that is new -/
theorem R.nu {F H : Hp} {σ : L2.St} {ρ : Sls} {p : Addr} (r : R c F H σ ρ) (hp : H p = none) : ∀ (j : Nat) d', ρ[j]? = some (.ow d') → σ[j]? ≠ some (some (.ref p)) := fun j d' h1 h2 => by
  have x := r.sl j
  rw [h1] at x
  obtain ⟨q, e1, _, _, e4⟩ := x
  rw [h2] at e1
  cases e1
  obtain ⟨o, eo⟩ := e4.there
  rw [hp] at eo; cases eo
theorem R.gnone {F H : Hp} {σ : L2.St} {ρ : Sls} {p : Addr} (r : R c F H σ ρ) (hp : H p = none) : c.G p = none := by
  cases e : c.G p with
  | none => rfl
  | some o => exact (r.dom p (by rw [e]; exact fun z => by cases z) hp).elim
theorem R.fnone {F H : Hp} {σ : L2.St} {ρ : Sls} {p : Addr} (r : R c F H σ ρ) (hp : H p = none) : F p = none := by
  cases e : F p with
  | none => rfl
  | some o => rw [r.sub _ _ e] at hp; cases hp

/-- x = e: a datum -/
theorem ds_set {i : Nat} {x : Str} {e : Expr} {f : M D} {pos pos' : Pos} (he : DE X c e f) (hN : X.N.Nodup) (hi : X.N[i]? = some x) (hx : Loc X.env.scope x) (hs : swapsWith e (some (.Name x pos')) pos.line X.env = pure false := by rfl)
    (hf : X.fn x = true ∨ X.env.scope.names.lookup x = some .local := by first | exact .inl rfl | exact .inr rfl | assumption) :
    DS X c (.Assign [.Name x pos'] e pos) (f.bind fun d ρ => .ok .nx (ρ.set i (.im d))) := PSw (ps_set hN hi hx he hs hf) fun D σ H ⟨F, ρ, r, h⟩ =>
  ⟨F, ρ, r, (Sst.bind (σ := σ) h).mono (.refl _) fun v H1 ⟨F1, ρ1, d, r1, l1, t1, h1⟩ => h1 _ F1 H1 (r1.setIm t1) (.refl _)⟩
end
end DL

set_option Elab.async false
set_option linter.all false
set_option maxRecDepth 100000
set_option maxHeartbeats 4000000
/-! DL3: expressions. -/
namespace DL
open PySem PySem.Spec PyProof.Rows L2
section
variable {X : Cx} {c : Fc} {F H : Hp} {σ : L2.St} {ρ : Sls}

/-! ### results that are told -/
theorem Pst.ret {d : D} {Q : VK} (h : Pst c σ F (M.ret d ρ) Q) {v : V} (r : R c F H σ ρ) (t : c.Dt F v d) : Q v H := h v F H r (.refl _) t
theorem Pst.newTup {ds : List D} {vs : List V} {Q : VK} (h : Pst c σ F (M.ret (.tup ds) ρ) Q) (r : R c F H σ ρ) (t : c.Dts F vs ds) {p : Addr} (hp : H p = none) : Q (.ref p) (upd H p (.tup vs)) := by
  have e : Ext c.T F H (upd F p (.tup vs)) (upd H p (.tup vs)) := .new r.sub hp
  exact h _ _ _ (r.ext e) (e.le r.sub) (.tup (SqT.of upd_same) (t.le (e.le r.sub)))
theorem Pst.newLst {ds : List D} {vs : List V} {Q : VK} (h : Pst c σ F (M.ret (.lst ds) ρ) Q) (r : R c F H σ ρ) (t : c.Dts F vs ds) {p : Addr} (hp : H p = none) : Q (.ref p) (upd H p (.lst vs)) := by
  have e : Ext c.T F H (upd F p (.lst vs)) (upd H p (.lst vs)) := .new r.sub hp
  exact h _ _ _ (r.ext e) (e.le r.sub) (.lst upd_same (t.le (e.le r.sub)))
theorem Pst.no {Q : VK} {P : Prop} (h : Pst c σ F ((M.no : M D) ρ) Q) : P := False.elim h

/-! ### a dict locked for good -/
theorem R.lockAt {p : Addr} {kvs : List (Key × V)} {od : Obj} (r : R c F H σ ρ) (fp : F p = none) (gp : c.G p = none) (hp : H p = some (.dK kvs)) (no : ∀ (j : Nat) d', ρ[j]? = some (.ow d') → σ[j]? ≠ some (some (.ref p))) :
    R c (upd F p (.frz od (.dK kvs))) (upd H p (.frz od (.dK kvs))) σ ρ := by
  have l : Le F (upd F p (.frz od (.dK kvs))) := fun a u q => by rw [upd_ne (fun z => by rw [z, fp] at q; cases q)]; exact q
  have nT : ∀ q ∈ c.T, q.1 ≠ p := noT_of r.tab hp fun ps z => by cases z
  refine ⟨fun a u q => ?_, fun a o nt e nb => ?_, fun q hq => ?_, fun q hq => ?_, fun a e z => ?_, fun a q => ?_, r.bor, r.len, fun i => ?_, r.one, r.own⟩
  · by_cases z : a = p
    · subst z; rw [upd_same] at q ⊢; exact q
    · rw [upd_ne z] at q ⊢; exact r.sub a u q
  · rw [upd_ne (fun z => by rw [z, gp] at e; cases e)]; exact r.ent a o nt e nb
  · obtain ⟨ps, k1, k2, k3⟩ := r.tab q hq
    refine ⟨ps, by rw [upd_ne (nT q hq)]; exact k1, k2, fun pos cv hc => ?_⟩
    obtain ⟨c', e1, e2⟩ := k3 pos cv hc
    exact ⟨c', e1, by rw [upd_ne (fun z => by rw [z, hp] at e2; unfold LamX.CodeO at e2; cases e2)]; exact e2⟩
  · rw [upd_ne (nT q hq)]; exact r.ft q hq
  · have na : a ≠ p := fun z => e (by rw [z]; exact gp)
    rw [upd_ne na] at z
    exact r.dom a e z
  · rw [upd_ne (fun z => q (by rw [z]; exact gp))]; exact r.frz a q
  · have x := r.sl i
    cases hs : ρ[i]? with
    | none => exact True.intro
    | some s =>
      rw [hs] at x
      cases s with
      | un => exact True.intro
      | im d => obtain ⟨v, e1, e2⟩ := x; exact ⟨v, e1, e2.le l⟩
      | ow d =>
        obtain ⟨q, e1, e2, e3, e4⟩ := x
        have nq : q ≠ p := fun z => no i d hs (by rw [e1, z])
        exact ⟨q, e1, by rw [upd_ne nq]; exact e2, e3, e4.le l fun o k => by rw [upd_ne nq]; exact k⟩
      | bo d =>
        obtain ⟨q, e1, e2, e3, e4⟩ := x
        have nq : q ≠ p := fun z => r.bor q e3 (by rw [z]; exact gp)
        exact ⟨q, e1, by rw [upd_ne nq]; exact e2, e3, e4.le l fun o k => by rw [upd_ne nq]; exact k⟩
/-- the def's own dict becomes a datum -/
theorem R.freezeK {i : Nat} {ds : List (Key × D)} (r : R c F H σ ρ) (h : ρ[i]? = some (.ow (.dct ds))) : ∃ p kvs, σ[i]? = some (some (.ref p)) ∧ H p = some (.dK kvs) ∧
    ∀ od, Le F (upd F p (.frz od (.dK kvs))) ∧ R c (upd F p (.frz od (.dK kvs))) (upd H p (.frz od (.dK kvs))) σ (ρ.set i (.im (.dct ds))) ∧ c.Dt (upd F p (.frz od (.dK kvs))) (.ref p) (.dct ds) := by
  have x := r.sl i
  rw [h] at x
  obtain ⟨p, e1, e2, e3, kvs, e4, e5, e6⟩ := x
  have hi : i < ρ.length := (List.getElem?_eq_some_iff.mp h).1
  refine ⟨p, kvs, e1, e4, fun od => ?_⟩
  have l : Le F (upd F p (.frz od (.dK kvs))) := fun a u q => by rw [upd_ne (fun z => by rw [z, e2] at q; cases q)]; exact q
  have t : c.Dt (upd F p (.frz od (.dK kvs))) (.ref p) (.dct ds) := .dct upd_same e5 (e6.le l)
  have sσ : σ.set i (some (.ref p)) = σ := by
    refine List.ext_getElem? fun j => ?_
    by_cases z : i = j
    · subst z
      rw [List.getElem?_set_self (List.getElem?_eq_some_iff.mp e1).1, e1]
    · rw [List.getElem?_set_ne z]
  have r1 : R c F H (σ.set i (some (.ref p))) (ρ.set i .un) := r.setUn
  rw [sσ] at r1
  have r2 := r1.lockAt (od := od) e2 e3 e4 fun j d' h1 h2 => by
    by_cases z : i = j
    · subst z; rw [List.getElem?_set_self hi] at h1; cases h1
    · rw [List.getElem?_set_ne z] at h1
      exact z (r.own i j p _ d' h h1 e1 h2)
  have r3 := r2.setIm (i := i) t
  rw [sσ, List.set_set] at r3
  exact ⟨l, r3, t⟩
/-- what is told of what was found may lock it -/
def ghK (Q : VK) : VK := fun v H => Q v H ∨ ∃ p u, H p = some u ∧ Mut (some u) ∧ ∀ od, Q v (upd H p (.frz od u))
theorem pe_gh {X : Cx} {e : Expr} {t : TE} (h : PE X e t) : PE X e fun σ H Q => t σ H (ghK Q) := ⟨fun pins s σ H Q I q => by
  refine thn (h.run pins s σ H _ I q) fun v s1 ⟨x, H1, I1, r, q1⟩ => ?_
  rcases q1 with q1 | ⟨p, u, hp, mu, q1⟩
  · exact ⟨x, H1, I1, r, q1⟩
  · obtain ⟨od, I2⟩ := I1.lock hp mu
    exact ⟨x, _, I2, r, q1 od⟩⟩
/-! ### names, constants -/
def M.var (i : Nat) : M D := fun ρ => match ρ[i]? with
  | some (.im d) => .ok d ρ
  | some (.ow d) => .ok d (ρ.set i (.im d))
  | _ => .no
theorem Pst.var {i : Nat} {Q : VK} (r : R c F H σ ρ) (h : Pst c σ F (M.var i ρ) Q) : tVar i σ H (ghK Q) := by
  unfold M.var at h
  have x := r.sl i
  cases e : ρ[i]? with
  | none => rw [e] at h; exact h.elim
  | some s =>
    rw [e] at h x
    cases s with
    | im d => obtain ⟨v, e1, t⟩ := x; exact ⟨v, e1, .inl (h v F H r (.refl _) t)⟩
    | ow d =>
      cases d with
      | dct ds => obtain ⟨p, kvs, e1, e2, q⟩ := r.freezeK e; exact ⟨.ref p, e1, .inr ⟨p, _, e2, True.intro, fun od => h _ _ _ (q od).2.1 (q od).1 (q od).2.2⟩⟩
      | _ => obtain ⟨v, F', e1, l, r', t⟩ := r.freeze e (fun ks z => by cases z); exact ⟨v, e1, .inl (h v F' H r' l t)⟩
    | un => exact h.elim
    | bo d => exact h.elim
theorem de_v (i : Nat) {x : Str} {pos : Pos} (hN : X.N[i]? = some x := by rfl) (hv : Vis X.env.scope x := by first | exact Or.inl rfl | exact Or.inr (Or.inl rfl) | exact Or.inr (Or.inr rfl)) (hd : (x == ("__debug__" : Str)) = false := by decide)
    (hcd : (x == ("__classdict__" : Str)) = false := by decide) : DE X c (.Name x pos) (M.var i) := PEw (pe_gh (pe_var hN hv hd hcd)) fun σ H Q ⟨F, ρ, r, h⟩ => h.var r
theorem de_int {i j pos} : DE X c (.Constant (.int i) j pos) (M.ret (.int i)) := PEw pe_int fun σ H Q ⟨F, ρ, r, h⟩ => h.ret r (.int i)
theorem de_bl {b j pos} : DE X c (.Constant (.bool b) j pos) (M.ret (.bl b)) := PEw pe_bl fun σ H Q ⟨F, ρ, r, h⟩ => h.ret r (.bl b)
theorem de_non {j pos} : DE X c (.Constant .none j pos) (M.ret .non) := PEw pe_non fun σ H Q ⟨F, ρ, r, h⟩ => h.ret r .non
theorem de_str {x j pos} : DE X c (.Constant (.str x) j pos) (M.ret (.str x)) := PEw pe_str fun σ H Q ⟨F, ρ, r, h⟩ => h.ret r (.str x)
/-- a constant of the module -/
theorem de_glob {x : Str} {v : V} {u : Value} {d : D} {pos : Pos} (hg : Gl X x) (hm : X.mg x = some u) (rv : RelV v u) (t : ∀ F, c.Dt F v d) (hd : (x == ("__debug__" : Str)) = false := by decide) : DE X c (.Name x pos) (M.ret d) :=
  PEw (pe_glob hg hm rv hd) fun σ H Q ⟨F, ρ, r, h⟩ => h.ret r (t F)

/-! ### operators -/
def OpD (c : Fc) (r : R2) (g : D → D → M D) : Prop := ∀ (F H : Hp) (σ : L2.St) (ρ : Sls) (x y : V) (d e : D) (Q : VK), R c F H σ ρ → c.Dt F x d → c.Dt F y e → Pst c σ F (g d e ρ) Q → r x y H Q
variable {a b e1 : Expr} {fa fb : M D} {pos : Pos} {r : R2} {g : D → D → M D}
def M.two (fa fb : M D) (g : D → D → M D) : M D := fa.bind fun x => fb.bind fun y => g x y
theorem two_tOp {Q : VK} (hg : OpD c r g) (rr : R c F H σ ρ) (h : Pst c σ F (M.two fa fb g ρ) Q) : tOp r (tE c fa) (tE c fb) σ H Q :=
  ⟨F, ρ, rr, (Pst.bind h).mono (.refl _) fun x H1 ⟨F1, ρ1, d, r1, l1, t1, h1⟩ => ⟨F1, ρ1, r1, (Pst.bind h1).mono (.refl _) fun y H2 ⟨F2, ρ2, e, r2, l2, t2, h2⟩ => hg F2 H2 σ ρ2 x y d e Q r2 (t1.le l2) t2 h2⟩⟩
theorem de_bin {op : Operator} (ho : OpR X (binaryOp op) r) (hg : OpD c r g) (ha : DE X c a fa) (hb : DE X c b fb) : DE X c (.BinOp a op b pos) (M.two fa fb g) :=
  PEw (pe_op ho ha hb) fun σ H Q ⟨F, ρ, rr, h⟩ => two_tOp hg rr h
theorem de_cmp {op : CmpOp} (ho : OpR X (compareOp op) r) (hg : OpD c r g) (ha : DE X c a fa) (hb : DE X c b fb) (hm : behindInMarks op b = false) : DE X c (.Compare a [op] [b] pos) (M.two fa fb g) :=
  PEw (pe_cmpR ho ha hb hm) fun σ H Q ⟨F, ρ, rr, h⟩ => two_tOp hg rr h
/-- a bool -/
def M.tb : D → M Bool
  | .bl b => M.ret b
  | _ => M.no
theorem Pstb.tb {m : M D} {Q : Bool → Hp → Prop} (h : Pstb c σ F ((m.bind M.tb) ρ) Q) : Pst c σ F (m ρ) fun v H1 => ∃ k, v = .bl k ∧ Q k H1 :=
  (Pstb.bind h).mono (.refl _) fun v H1 ⟨F1, ρ1, d, r1, l1, t1, h1⟩ => by
    cases d with
    | bl b => cases t1; exact ⟨b, rfl, h1 F1 H1 r1 (.refl _)⟩
    | _ => exact h1.elim
theorem dt_cmp {op : CmpOp} (ho : OpR X (compareOp op) r) (hg : OpD c r g) (ha : DE X c a fa) (hb : DE X c b fb) (hm : behindInMarks op b = false) : DT X c (.Compare a [op] [b] pos) ((M.two fa fb g).bind M.tb) :=
  PTw (pt_cmpR ho ha hb hm) fun σ H Q ⟨F, ρ, rr, h⟩ => two_tOp hg rr (Pstb.tb h)
/-- an expression whose value is a bool, as a test -/
theorem dt_val {e : Expr} {f : M D} (h : DE X c e f) (he : ∀ whole, isTrue e X.env whole = (do let v ← whole; standAt e.pos; holding [v] (truthy v)) := by intro _; rfl) : DT X c e (f.bind M.tb) :=
  PTw (pt_val h he) fun σ H Q ⟨F, ρ, rr, h⟩ => ⟨F, ρ, rr, Pstb.tb h⟩
/-- the truth of a datum -/
def truD : D → M Bool
  | .non => M.ret false
  | .bl b => M.ret b
  | .int i => M.ret (i != 0)
  | .str y => M.grd (y.length ≤ 16777216) (M.ret ((y.length : Int) != 0))
  | .lst ds | .rol ds | .tup ds => M.ret (!ds.isEmpty)
  | _ => M.no
theorem Dts.empty {K : PySem.W.Frag} {mg : Str → Option Value} {F : Hp} {vs : List V} {ds : List D} (h : Dts K mg F vs ds) : ds.isEmpty = vs.isEmpty := by
  cases h <;> rfl
theorem Pst.grd {b : Prop} [Decidable b] {m : M D} {Q : VK} (h : Pst c σ F (M.grd (decide b) m ρ) Q) : b ∧ Pst c σ F (m ρ) Q := by
  unfold M.grd at h
  by_cases z : b
  · rw [decide_eq_true z] at h; exact ⟨z, h⟩
  · rw [decide_eq_false z] at h; exact h.elim
theorem Pstb.grd {b : Prop} [Decidable b] {m : M Bool} {Q : Bool → Hp → Prop} (h : Pstb c σ F (M.grd (decide b) m ρ) Q) : b ∧ Pstb c σ F (m ρ) Q := by
  unfold M.grd at h
  by_cases z : b
  · rw [decide_eq_true z] at h; exact ⟨z, h⟩
  · rw [decide_eq_false z] at h; exact h.elim
theorem line_eq : (sizeLine : Nat) = 16777216 := sizeLine_eq
theorem tru_D {Q : Bool → Hp → Prop} {v : V} {d : D} {ρ : Sls} (rr : R c F H σ ρ) (t : c.Dt F v d) (h : Pstb c σ F (truD d ρ) Q) : ∃ k, TruV c.K v H k ∧ Q k H := by
  have lst : ∀ {a xs}, F a = some (.lst xs) → SqL c.K H a xs := fun e => .inl (.inl (rr.sub _ _ e))
  cases t with
  | non => exact ⟨_, rfl, h F H rr (.refl _)⟩
  | bl b => exact ⟨_, rfl, h F H rr (.refl _)⟩
  | int i => exact ⟨_, rfl, h F H rr (.refl _)⟩
  | str x =>
    obtain ⟨z, h⟩ := Pstb.grd (b := x.length ≤ 16777216) h
    exact ⟨_, ⟨by rw [line_eq]; exact z, rfl⟩, h F H rr (.refl _)⟩
  | lst e t => exact ⟨_, .inl ⟨_, lst e, rfl⟩, by rw [← t.empty]; exact h F H rr (.refl _)⟩
  | rol e t => exact ⟨_, .inl ⟨_, SqL.le rr.sub e, rfl⟩, by rw [← t.empty]; exact h F H rr (.refl _)⟩
  | tup e t => exact ⟨_, .inr (.inl ⟨_, SqT.le rr.sub e, rfl⟩), by rw [← t.empty]; exact h F H rr (.refl _)⟩
  | dct => exact h.elim
  | ob => exact h.elim
  | ex => exact h.elim
  | ex0 => exact h.elim
  | ty => exact h.elim
  | cl => exact h.elim
theorem dt_tru (fx : Fit X c) {e : Expr} {f : M D} (h : DE X c e f) (he : ∀ whole, isTrue e X.env whole = (do let v ← whole; standAt e.pos; holding [v] (truthy v)) := by intro _; rfl) : DT X c e (f.bind truD) :=
  PTw (pt_truth h he) fun σ H Q ⟨F, ρ, rr, h⟩ => ⟨F, ρ, rr, (Pstb.bind h).mono (.refl _) fun v H1 ⟨F1, ρ1, d, r1, l1, t1, h1⟩ => by
    rw [fx.k]; exact tru_D r1 t1 h1⟩

/-! ### and, or, not -/
def DW (X : Cx) (c : Fc) (e : Expr) (f : M Bool) : Prop := PW X e (tTe c f)
variable {ga gb : M Bool} {rest : List Expr}
def M.and (ga gb : M Bool) : M Bool := ga.bind fun x => if x then gb else M.ret false
def M.or (ga gb : M Bool) : M Bool := ga.bind fun x => if x then M.ret true else gb
theorem dw_and1 (ha : DT X c a ga) : DW X c (.BoolOp .And [a] pos) ga := pw_and1 ha
theorem dw_or1 (ha : DT X c a ga) : DW X c (.BoolOp .Or [a] pos) ga := pw_or1 ha
theorem dw_and (ha : DT X c a ga) (hb : DW X c (.BoolOp .And (b :: rest) pos) gb) : DW X c (.BoolOp .And (a :: b :: rest) pos) (ga.and gb) :=
  PWw (pw_and ha hb) fun σ H Q ⟨F, ρ, rr, h⟩ => ⟨F, ρ, rr, (Pstb.bindB h).mono (.refl _) fun v H1 ⟨F1, ρ1, r1, l1, h1⟩ => by
    cases v with
    | true => exact iteT ⟨F1, ρ1, r1, h1⟩
    | false => exact iteF (h1 F1 H1 r1 (.refl _))⟩
theorem dw_or (ha : DT X c a ga) (hb : DW X c (.BoolOp .Or (b :: rest) pos) gb) : DW X c (.BoolOp .Or (a :: b :: rest) pos) (ga.or gb) :=
  PWw (pw_or ha hb) fun σ H Q ⟨F, ρ, rr, h⟩ => ⟨F, ρ, rr, (Pstb.bindB h).mono (.refl _) fun v H1 ⟨F1, ρ1, r1, l1, h1⟩ => by
    cases v with
    | true => exact iteT (h1 F1 H1 r1 (.refl _))
    | false => exact iteF ⟨F1, ρ1, r1, h1⟩⟩
theorem dt_w {e : Expr} {f : M Bool} (h : DW X c e f) : DT X c e f := h.pt
theorem dt_not (ha : DT X c a ga) : DT X c (.UnaryOp .Not a pos) (ga.bind fun x => M.ret (!x)) :=
  PTw (pt_not ha) fun σ H Q ⟨F, ρ, rr, h⟩ => ⟨F, ρ, rr, (Pstb.bindB h).mono (.refl _) fun v H1 ⟨F1, ρ1, r1, l1, h1⟩ => h1 F1 H1 r1 (.refl _)⟩
/-- .. as values, bools -/
def M.andV (fa fb : M D) : M D := fa.bind fun d => match d with
  | .bl true => fb
  | .bl false => M.ret (.bl false)
  | _ => M.no
def M.orV (fa fb : M D) : M D := fa.bind fun d => match d with
  | .bl true => M.ret (.bl true)
  | .bl false => fb
  | _ => M.no
theorem de_one {op} {f : M D} (h : DE X c a f) : DE X c (.BoolOp op [a] pos) f := pe_one h
theorem de_and (ha : DE X c a fa) (hb : DE X c (.BoolOp .And (b :: rest) pos) fb) : DE X c (.BoolOp .And (a :: b :: rest) pos) (fa.andV fb) :=
  PEw (pe_and ha hb) fun σ H Q ⟨F, ρ, rr, h⟩ => ⟨F, ρ, rr, (Pst.bind h).mono (.refl _) fun v H1 ⟨F1, ρ1, d, r1, l1, t1, h1⟩ => by
    cases d with
    | bl k =>
      cases t1
      cases k with
      | true => exact ⟨true, rfl, iteT ⟨F1, ρ1, r1, h1⟩⟩
      | false => exact ⟨false, rfl, iteF (Pst.ret h1 r1 (.bl false))⟩
    | _ => exact h1.elim⟩
theorem de_or (ha : DE X c a fa) (hb : DE X c (.BoolOp .Or (b :: rest) pos) fb) : DE X c (.BoolOp .Or (a :: b :: rest) pos) (fa.orV fb) :=
  PEw (pe_or ha hb) fun σ H Q ⟨F, ρ, rr, h⟩ => ⟨F, ρ, rr, (Pst.bind h).mono (.refl _) fun v H1 ⟨F1, ρ1, d, r1, l1, t1, h1⟩ => by
    cases d with
    | bl k =>
      cases t1
      cases k with
      | true => exact ⟨true, rfl, iteT (Pst.ret h1 r1 (.bl true))⟩
      | false => exact ⟨false, rfl, iteF ⟨F1, ρ1, r1, h1⟩⟩
    | _ => exact h1.elim⟩
def M.notV (fa : M D) : M D := fa.bind fun d => match d with
  | .bl k => M.ret (.bl (!k))
  | _ => M.no
theorem de_not (ha : DE X c a fa) : DE X c (.UnaryOp .Not a pos) fa.notV :=
  PEw (pe_not ha) fun σ H Q ⟨F, ρ, rr, h⟩ => ⟨F, ρ, rr, (Pst.bind h).mono (.refl _) fun v H1 ⟨F1, ρ1, d, r1, l1, t1, h1⟩ => by
    cases d with
    | bl k => cases t1; exact ⟨k, rfl, Pst.ret h1 r1 (.bl (!k))⟩
    | _ => exact h1.elim⟩
theorem de_ifx {t : Expr} (ht : DT X c t ga) (ha : DE X c a fa) (hb : DE X c b fb) : DE X c (.IfExp t a b pos) (ga.bind fun x => if x then fa else fb) :=
  PEw (pe_ifExp ht ha hb) fun σ H Q ⟨F, ρ, rr, h⟩ => ⟨F, ρ, rr, (Pst.bindB h).mono (.refl _) fun v H1 ⟨F1, ρ1, r1, l1, h1⟩ => by
    cases v with
    | true => exact iteT ⟨F1, ρ1, r1, h1⟩
    | false => exact iteF ⟨F1, ρ1, r1, h1⟩⟩

/-! ### lists of expressions, displays -/
variable {es : List Expr} {fs : M (List D)}
def M.cons (fa : M D) (fs : M (List D)) : M (List D) := fa.bind fun d => fs.bind fun ds => M.ret (d :: ds)
theorem da_nil : DA X c [] (M.ret []) := PAw pa_nil fun σ H Q ⟨F, ρ, r, h⟩ => h [] F H r (.refl _) .nil
theorem da_cons (ha : DE X c a fa) (hr : DA X c es fs) (hs : starEach (a :: es) X.env = (false, eval a X.env) :: starEach es X.env := by rfl) : DA X c (a :: es) (fa.cons fs) :=
  PAw (pa_cons ha hr hs) fun σ H Q ⟨F, ρ, rr, h⟩ => ⟨F, ρ, rr, (Psts.bind h).mono (.refl _) fun v H1 ⟨F1, ρ1, d, r1, l1, t1, h1⟩ => ⟨F1, ρ1, r1, (Psts.bindA h1).mono (.refl _) fun vs H2 ⟨F2, ρ2, ds, r2, l2, t2, h2⟩ =>
    h2 (v :: vs) F2 H2 r2 (.refl _) (.cons (t1.le l2) t2)⟩⟩
def M.disp (fs : M (List D)) (k : List D → D) : M D := fs.bind fun ds => M.grd (ds.length ≤ 16777216) (M.ret (k ds))
theorem de_tup {x1} (h : DA X c es fs) : DE X c (.Tuple es x1 pos) (fs.disp .tup) :=
  PEw (pe_tup h) fun σ H Q ⟨F, ρ, rr, h⟩ => ⟨F, ρ, rr, (Pst.bindA h).mono (.refl _) fun vs H1 ⟨F1, ρ1, ds, r1, l1, t1, h1⟩ => by
    obtain ⟨z, h1⟩ := Pst.grd (b := ds.length ≤ 16777216) h1
    exact ⟨by rw [line_eq, t1.length]; exact z, fun p hp => h1.newTup r1 t1 hp⟩⟩
theorem de_lst (h : DA X c es fs) : DE X c (.List es pos) (fs.disp .lst) :=
  PEw (pe_lst h) fun σ H Q ⟨F, ρ, rr, h⟩ => ⟨F, ρ, rr, (Pst.bindA h).mono (.refl _) fun vs H1 ⟨F1, ρ1, ds, r1, l1, t1, h1⟩ => by
    obtain ⟨z, h1⟩ := Pst.grd (b := ds.length ≤ 16777216) h1
    exact ⟨by rw [line_eq, t1.length]; exact z, fun p hp => h1.newLst r1 t1 hp⟩⟩

/-! ### calls -/
def CallD (c : Fc) (r : List V → Hp → VK → Prop) (g : List D → M D) : Prop := ∀ (F H : Hp) (σ : L2.St) (ρ : Sls) (xs : List V) (ds : List D) (Q : VK), R c F H σ ρ → c.Dts F xs ds → Pst c σ F (g ds ρ) Q → r xs H Q
variable {rc : List V → Hp → VK → Prop} {gc : List D → M D} {x : Str} {p : Pos}
theorem de_callB {id : String} (hc : CallR X (.builtin id) rc) (hd : CallD c rc gc) (hg : Gl X x) (hm : X.mg x = none) (hv : bootBuiltins x = some (.builtin id)) (ha : DA X c (a :: es) fs) (hn : x ≠ "__name__" := by decide) (hdb : (x == ("__debug__" : Str)) = false := by decide)
    (he : starEach (a :: es) X.env = (false, eval a X.env) :: starEach es X.env := by rfl) (hpl : (backTo pos (starEach es X.env)).any (·.1) = false := by rfl) : DE X c (.Call (.Name x p) (a :: es) [] pos) (fs.bind gc) :=
  PEw (pe_callB hc hg hm hv ha hn hdb he hpl) fun σ H Q ⟨F, ρ, rr, h⟩ => ⟨F, ρ, rr, (Pst.bindA h).mono (.refl _) fun vs H1 ⟨F1, ρ1, ds, r1, l1, t1, h1⟩ => hd F1 H1 σ ρ1 vs ds Q r1 t1 h1⟩
theorem de_callTy {T : String} (hc : CallR X (.type T) rc) (hd : CallD c rc gc) (hg : Gl X x) (hm : X.mg x = none) (hv : bootBuiltins x = some (.type T)) (ha : DA X c (a :: es) fs) (hn : x ≠ "__name__" := by decide) (hdb : (x == ("__debug__" : Str)) = false := by decide)
    (he : starEach (a :: es) X.env = (false, eval a X.env) :: starEach es X.env := by rfl) (hpl : (backTo pos (starEach es X.env)).any (·.1) = false := by rfl) : DE X c (.Call (.Name x p) (a :: es) [] pos) (fs.bind gc) :=
  PEw (pe_callTy hc hg hm hv ha hn hdb he hpl) fun σ H Q ⟨F, ρ, rr, h⟩ => ⟨F, ρ, rr, (Pst.bindA h).mono (.refl _) fun vs H1 ⟨F1, ρ1, ds, r1, l1, t1, h1⟩ => hd F1 H1 σ ρ1 vs ds Q r1 t1 h1⟩
/-- a def of the text is called -/
theorem end_of {Q : VK} {K : PySem.W.Frag} {mg : Str → Option Value} (hk : K = c.K) (hm : mg = c.mg) (rr : R c F H σ ρ) {rs : Res D} (h : Pst c σ F (M.res rs ρ) Q) : endD K mg c.T F H rs Q (WE c.W σ) := by
  subst hk hm
  cases rs with
  | ok d => exact fun v F' H' e t => h v F' H' (rr.ext e) (e.le rr.sub) t
  | er k fs => exact fun C dd F' H' fv m e e1 e2 e3 => h C dd F' H' fv m (rr.ext e) (e.le rr.sub) e1 e2 e3
  | no => exact h.elim
def M.call (n : Nat) (f : List D → Res D) (ds : List D) : M D := M.grd (ds.length = n) (M.res (f ds))
theorem de_call {k n : Nat} {f : Addr} {fd : FuncData} {ps : List Str} {fn : List D → Res D} (fx : Fit X c) (Fn : FnOk X.prog X.w X.K X.mg X.base (L2.CX X.prog X.w) k f fd ps (spD X.K X.mg c.T n fn)) (hr : Room k X.A) (hg : Gl X x) (hm : X.mg x = some (.ref f)) (hk : PySem.W.keepIn X.K (.ref f) = true) (hb : Binds X.K fd ps [])
    (ha : DA X c (a :: es) fs) (hdb : (x == ("__debug__" : Str)) = false := by decide) (he : starEach (a :: es) X.env = (false, eval a X.env) :: starEach es X.env := by rfl) (hpl : (backTo pos (starEach es X.env)).any (·.1) = false := by rfl) :
    DE X c (.Call (.Name x p) (a :: es) [] pos) (fs.bind (M.call n fn)) :=
  PEw (pe_callS Fn hr hg hm hk hb (fun σ => passAt fx.tk σ) ha hdb he hpl) fun σ H Q ⟨F, ρ, rr, h⟩ => ⟨F, ρ, rr, (Pst.bindA h).mono (.refl _) fun vs H1 ⟨F1, ρ1, ds, r1, l1, t1, h1⟩ => by
    obtain ⟨z, h1⟩ := Pst.grd (b := ds.length = n) h1
    exact ⟨F1, ds, ⟨r1.tab, r1.ft, r1.sub⟩, by rw [fx.k, fx.mg]; exact t1, z, end_of fx.k fx.mg r1 h1⟩⟩
end
end DL

set_option Elab.async false
set_option linter.all false
set_option maxRecDepth 100000
set_option maxHeartbeats 4000000
/-! DLG: promises of defs that are called where no repr is under way (its guards are told: none). -/
namespace DL
open PySem PySem.Spec PyProof.Rows L2
/-- a def keeps its promise wherever no guard is up -/
structure FnG (P : Program) (w : World) (K : PySem.W.Frag) (mg : Str → Option Value) (base : Heap) (k : Nat) (f : Addr) (fd : FuncData) (ps : List Str) (sp : Sp) : Prop where
  len : ∀ vs H Q E, sp vs H Q E → vs.length = ps.length
  go : ∀ (A : Around) (ou : List Env) (s : Shared) (H : Hp) (args : Args) (us : List Value) (vs : List V) (Q : VK) (E : XK), Room k A → A.guards = some [] → Env0 P w K mg base A ou s H → BindsTo s fd args (ps.zip us) → Vals vs us → sp vs H Q E →
    codeAny (model P w) A (.call (.ref f) args) (CR (L2.CX P w) ou P w H s Q E) s
theorem FnG.of {P : Program} {w : World} {K : PySem.W.Frag} {mg : Str → Option Value} {base : Heap} {k : Nat} {f : Addr} {fd : FuncData} {ps : List Str} {sp : Sp} (F : FnOk P w K mg base (L2.CX P w) k f fd ps sp) : FnG P w K mg base k f fd ps sp :=
  ⟨F.len, fun A ou s H args us vs Q E hr _ => F.run A ou s H args us vs Q E hr⟩
theorem FnG.mono {P : Program} {w : World} {K : PySem.W.Frag} {mg : Str → Option Value} {base : Heap} {j k : Nat} {f : Addr} {fd : FuncData} {ps : List Str} {sp : Sp} (F : FnG P w K mg base j f fd ps sp) (h : j ≤ k) : FnG P w K mg base k f fd ps sp :=
  ⟨F.len, fun A ou s H args us vs Q E hr => F.go A ou s H args us vs Q E (hr.mono h)⟩
section
variable {P : Program} {w : World} {K : PySem.W.Frag} {mg : Str → Option Value} {base : Heap} {T : List (Addr × Str)}
theorem fnG_mk {x qual : Str} {st : Stmt} {f : Addr} {fd : FuncData} {N ps : List Str} {k : Nat} {sp : Sp} (Fn : Fun K x qual st f fd) (S : FnScope N ps (defScope st)) (len : ∀ vs H Q E, sp vs H Q E → vs.length = ps.length)
    (hbody : ∀ (cdv : Value) (A : Around) (ou : List Env) (s : Shared) (H : Hp) (vs : List V) (Q : VK) (E : XK), Room k (A.deeper (envOfC qual (defScope st) s.heap.objs.size f cdv)) → A.guards = some [] → sp vs H Q E →
      ∃ t, PSs (cxOf (L2.CX P w) P w K mg base N qual (defScope st) f cdv A ou s H E) (defBody st) t ∧ t { nx := fun _ H' => Q .non H', rt := Q } (L2.start N vs) H) : FnG P w K mg base (k + 1) f fd ps sp := by
  obtain ⟨oc, od, kV, doc, pm, an, cdv, ct, osl, rfl, lk, hcd⟩ := Fn.ex
  exact ⟨len, fun A ou s H args us vs Q E hr hg e0 hb r hsp => LamX.run_ofS lk hcd S hr e0 hb r (len _ _ _ _ hsp) fun hr' => hbody cdv A ou s H vs Q E hr' hg hsp⟩
theorem fnG_spD {x qual : Str} {st : Stmt} {f : Addr} {fd : FuncData} {N ps : List Str} {k : Nat} {g : M Out} (Fn : Fun K x qual st f fd) (S : FnScope N ps (defScope st))
    (hbody : ∀ (cdv : Value) (A : Around) (ou : List Env) (s : Shared) (H : Hp) (E : XK) (c : Fc), c.K = K → c.mg = mg → c.T = T → Fit (cxOf (L2.CX P w) P w K mg base N qual (defScope st) f cdv A ou s H E) c → Room k (A.deeper (envOfC qual (defScope st) s.heap.objs.size f cdv)) → A.guards = some [] →
      DSs (cxOf (L2.CX P w) P w K mg base N qual (defScope st) f cdv A ou s H E) c (defBody st) g) :
    FnG P w K mg base (k + 1) f fd ps (spD K mg T ps.length fun ds => resD (g (slots N.length (ds.map .im)))) := by
  refine fnG_mk Fn S (fun vs H Q E ⟨F, ds, _, t, hl, _⟩ => by rw [t.length]; exact hl) fun cdv A ou s H vs Q E hr hgd ⟨F, ds, ⟨tb, ft, sub⟩, t, hl, he⟩ => ?_
  refine ⟨_, hbody cdv A ou s H E ⟨K, mg, T, H, F, none, fun cls d _ H => E cls d H⟩ rfl rfl rfl ⟨rfl, rfl, takes_of rfl rfl rfl rfl, fun _ _ _ _ _ h => h⟩ hr hgd, F, slots N.length (ds.map .im), ?_, ?_⟩
  · exact ⟨sub, fun a o _ e _ => e, tb, ft, fun a e => e, fun a _ => rfl, fun _ e => (by cases e), slots_len (by rw [t.length, List.length_map]) rfl, fun i => slots_get t H i, fun i d h1 => (slots_nb h1).elim, fun i j p d d' h1 _ _ _ => (slots_im h1).elim⟩
  · have he : endD K mg T F H (resD (g (slots N.length (ds.map .im)))) Q E := he
    generalize g (slots N.length (ds.map .im)) = r at he
    cases r with
    | ok o ρ' =>
      cases o with
      | nx => exact fun σ' F' H' r l => he .non F' H' ⟨fun a o n e => r.ent a o n e (by intro z; cases z), fun _ => r.tab, r.dom, fun a e => r.frz a e, r.sub⟩ .non
      | rt d => exact fun σ' v F' H' r l dt => he v F' H' ⟨fun a o n e => r.ent a o n e (by intro z; cases z), fun _ => r.tab, r.dom, fun a e => r.frz a e, r.sub⟩ dt
      | bk => exact he.elim
      | ct => exact he.elim
    | er kk fs ρ' => exact fun C dd σ' F' H' fv m r l e1 e2 e3 => he C dd F' H' fv m ⟨fun a o n e => r.ent a o n e (by intro z; cases z), fun _ => r.tab, r.dom, fun a e => r.frz a e, r.sub⟩ e1 e2 e3
    | no => exact he.elim
end
section
variable {X : Cx} {c : Fc} {a : Expr} {es : List Expr} {fs : M (List D)} {x : Str} {p pos : Pos}
/-- the callee runs from here -/
theorem run_G {k : Nat} {f : Addr} {fd : FuncData} {ps : List Str} {sp : Sp} {W : WX} {pins : List (Addr × Obj)} {σ : L2.St} {H : Hp} {s : Shared} {Q : VK} {us : List Value} {vs : List V} (Fn : FnG X.prog X.w X.K X.mg X.base k f fd ps sp) (hr : Room k X.A) (hgd : X.A.guards = some []) (hb : Binds X.K fd ps [])
    (tk : Takes X W) (I : Inv X pins σ H s) (r : Vals vs us) (h : sp vs H Q (WE W σ)) : wpAny (model X.prog X.w) X.A (call (.ref f) us) (EP X pins σ Q) X.xe s := by
  have hl : us.length = ps.length := by rw [← r.length]; exact Fn.len _ _ _ _ h
  have b := hb s us I.kIn (by rw [List.append_nil]; exact hl)
  rw [List.append_nil] at b
  refine wpAny_call (codeAny_mono (Fn.go X.A X.stack s H ⟨us, []⟩ us vs Q (WE W σ) hr hgd I.env0 b r h) fun res s2 hq => ?_)
  match res, hq with
  | .error e, hq => exact passAt tk σ pins H s e s2 I hq
  | .ok (.ret u), hq => exact I.after hq
  | .ok .next, hq => exact hq.elim
  | .ok .brk, hq => exact hq.elim
  | .ok .cont, hq => exact hq.elim
theorem pe_G {k : Nat} {f : Addr} {fd : FuncData} {ps : List Str} {sp : Sp} {W : WX} {t : TA} (Fn : FnG X.prog X.w X.K X.mg X.base k f fd ps sp) (hr : Room k X.A) (hgd : X.A.guards = some []) (hg : Gl X x) (hm : X.mg x = some (.ref f)) (hk : PySem.W.keepIn X.K (.ref f) = true) (hb : Binds X.K fd ps [])
    (tk : Takes X W) (ha : PA X (a :: es) t) (hdb : (x == ("__debug__" : Str)) = false := by decide) (he : starEach (a :: es) X.env = (false, eval a X.env) :: starEach es X.env := by rfl) (hpl : (backTo pos (starEach es X.env)).any (·.1) = false := by rfl) :
    PE X (.Call (.Name x p) (a :: es) [] pos) (tCallS sp (WE W) t) :=
  ⟨fun pins s σ H Q I h => wpAny_Call_Name_kw (ld_glob I hg hm (PySem.W.callWith_K (h₀ := X.base) I.ok.mod.kin hk (thn (ha.run pos pins s σ H _ I h) fun us s1 ⟨vs, H1, I1, r, q⟩ => ⟨I1.kIn, run_G Fn hr hgd hb tk I1 r q⟩) he hpl) hdb)⟩
theorem de_callG {k n : Nat} {f : Addr} {fd : FuncData} {ps : List Str} {fn : List D → Res D} (fx : Fit X c) (Fn : FnG X.prog X.w X.K X.mg X.base k f fd ps (spD X.K X.mg c.T n fn)) (hr : Room k X.A) (hgd : X.A.guards = some []) (hg : Gl X x) (hm : X.mg x = some (.ref f)) (hk : PySem.W.keepIn X.K (.ref f) = true) (hb : Binds X.K fd ps [])
    (ha : DA X c (a :: es) fs) (hdb : (x == ("__debug__" : Str)) = false := by decide) (he : starEach (a :: es) X.env = (false, eval a X.env) :: starEach es X.env := by rfl) (hpl : (backTo pos (starEach es X.env)).any (·.1) = false := by rfl) :
    DE X c (.Call (.Name x p) (a :: es) [] pos) (fs.bind (M.call n fn)) :=
  PEw (pe_G Fn hr hgd hg hm hk hb fx.tk ha hdb he hpl) fun σ H Q ⟨F, ρ, rr, h⟩ => ⟨F, ρ, rr, (Pst.bindA h).mono (.refl _) fun vs H1 ⟨F1, ρ1, ds, r1, l1, t1, h1⟩ => by
    obtain ⟨z, h1⟩ := Pst.grd (b := ds.length = n) h1
    exact ⟨F1, ds, ⟨r1.tab, r1.ft, r1.sub⟩, by rw [fx.k, fx.mg]; exact t1, z, end_of fx.k fx.mg r1 h1⟩⟩

/-! ### a call that changes an own list of the caller's: f(tub, ..) -/
/-- what the caller's slot holds: an own list or the one that it was handed -/
theorem R.extB {F H F' H' : Hp} {σ : L2.St} {ρ : Sls} {i : Nat} {p : Addr} {t t' : D} {sl : D → Sl} (hsl : (sl = .ow ∨ sl = .bo)) (r : R c F H σ ρ) (h : ρ[i]? = some (sl t)) (hp : σ[i]? = some (some (.ref p))) (e : ExtB c.T p F H F' H') (o : OwnOk c.K c.mg F' H' p t') : R c F' H' σ (ρ.set i (sl t')) := by
  have hi : i < ρ.length := (List.getElem?_eq_some_iff.mp h).1
  have x := r.sl i
  rw [h, hp] at x
  have facts : F p = none ∧ H p ≠ none := by
    rcases hsl with z | z <;> subst z
    · obtain ⟨q, e1, e2, _, e4⟩ := x
      cases e1
      obtain ⟨o, eo⟩ := e4.there
      exact ⟨e2, by rw [eo]; exact fun z => by cases z⟩
    · obtain ⟨q, e1, e2, _, e4⟩ := x
      cases e1
      obtain ⟨o, eo⟩ := e4.there
      exact ⟨e2, by rw [eo]; exact fun z => by cases z⟩
  have l : Le F F' := fun a u q => by rw [e.old a (by rw [r.sub a u q]; exact fun z => by cases z)]; exact q
  have hB : ∀ q, c.G q ≠ none → c.B ≠ some q → q ≠ p := fun q g b z => by
    subst z
    rcases hsl with z | z <;> subst z
    · obtain ⟨q', e1, _, e3, _⟩ := x
      cases e1
      exact g e3
    · obtain ⟨q', e1, _, e3, _⟩ := x
      cases e1
      exact b e3
  refine ⟨e.sub, fun a u nt q n => e.h a u nt (hB a (by rw [q]; exact fun z => by cases z) n) (r.ent a u nt q n), e.tab r.tab, fun q hq => by
      obtain ⟨ps, eq, _⟩ := r.tab q hq
      rw [e.old _ (some_ne eq)]; exact r.ft q hq, fun a g => e.dm a (r.dom a g), fun a g => by rw [e.old a (r.dom a g)]; exact r.frz a g, r.bor, by rw [List.length_set]; exact r.len, fun j => ?_, fun j d1 h1 => ?_, fun j k q d d' h1 h2 h3 h4 => ?_⟩
  · by_cases zj : j = i
    · subst zj
      rw [List.getElem?_set_self hi, hp]
      have fp : F' p = none := by rw [e.old p facts.2]; exact facts.1
      rcases hsl with z | z <;> subst z
      · obtain ⟨q, e1, _, e3, _⟩ := x
        cases e1
        exact ⟨p, rfl, fp, e3, o⟩
      · obtain ⟨q, e1, _, e3, _⟩ := x
        cases e1
        exact ⟨p, rfl, fp, e3, o⟩
    · rw [List.getElem?_set_ne (Ne.symm zj)]
      have y := r.sl j
      have keep : ∀ {q : Addr} {d : D}, q ≠ p → F q = none → OwnOk c.K c.mg F H q d → F' q = none ∧ OwnOk c.K c.mg F' H' q d := fun {q d} nq f0 ow => by
        obtain ⟨u, eu⟩ := ow.there
        exact ⟨by rw [e.old q (by rw [eu]; exact fun z => by cases z)]; exact f0, ow.le l fun u' eu' => e.h q u' (ow.noT r.tab) nq eu'⟩
      revert y
      cases hs : ρ[j]? with
      | none => exact fun _ => True.intro
      | some s =>
        cases s with
        | un => exact fun _ => True.intro
        | im d => exact fun ⟨v, a1, a2⟩ => ⟨v, a1, a2.le l⟩
        | ow d =>
          rintro ⟨q, a1, a2, a3, a4⟩
          have nq : q ≠ p := fun z => by
            subst z
            rcases hsl with zz | zz <;> subst zz
            · exact zj (r.own j i q d t hs h a1 hp)
            · obtain ⟨q', e1, _, e3, _⟩ := x
              cases e1
              exact r.bor q e3 a3
          obtain ⟨b1, b2⟩ := keep nq a2 a4
          exact ⟨q, a1, b1, a3, b2⟩
        | bo d =>
          rintro ⟨q, a1, a2, a3, a4⟩
          have nq : q ≠ p := fun z => by
            subst z
            rcases hsl with zz | zz <;> subst zz
            · obtain ⟨q', e1, _, e3, _⟩ := x
              cases e1
              exact (r.bor q a3 e3).elim
            · exact zj ((r.one j d hs).trans (r.one i t h).symm)
          obtain ⟨b1, b2⟩ := keep nq a2 a4
          exact ⟨q, a1, b1, a3, b2⟩
  · by_cases zj : j = i
    · subst zj
      rw [List.getElem?_set_self hi] at h1
      rcases hsl with z | z <;> subst z
      · cases h1
      · exact r.one j t h
    · rw [List.getElem?_set_ne (Ne.symm zj)] at h1
      exact r.one j d1 h1
  · by_cases zj : j = i
    · by_cases zk : k = i
      · rw [zj, zk]
      · subst zj
        rw [List.getElem?_set_self hi] at h1
        rw [List.getElem?_set_ne (Ne.symm zk)] at h2
        rcases hsl with z | z <;> subst z
        · exact r.own j k q t d' h h2 h3 h4
        · cases h1
    · rw [List.getElem?_set_ne (Ne.symm zj)] at h1
      by_cases zk : k = i
      · subst zk
        rw [List.getElem?_set_self hi] at h2
        rcases hsl with z | z <;> subst z
        · exact r.own j k q d t h1 h h3 h4
        · cases h2
      · rw [List.getElem?_set_ne (Ne.symm zk)] at h2
        exact r.own j k q d d' h1 h2 h3 h4
end
end DL

set_option Elab.async false
set_option linter.all false
set_option maxRecDepth 100000
set_option maxHeartbeats 4000000
/-! DL4: operators and built-ins on data. -/
namespace DL
open PySem PySem.Spec PyProof.Rows L2
section
variable {X : Cx} {c : Fc} {F H : Hp} {σ : L2.St} {ρ : Sls}
theorem Le.sqL {K : PySem.W.Frag} {a : Addr} {xs : List V} (s : Le F H) (h : F a = some (.lst xs)) : SqL K H a xs := .inl (.inl (s _ _ h))

/-! ### + - * // % ** -/
def gAdd : D → D → M D
  | .int i, .int j => M.ret (.int (i + j))
  | .str x, .str y => M.grd (x.length + y.length ≤ 16777216) (M.ret (.str (x ++ y)))
  | .lst a, .lst b => M.grd (a.length + b.length ≤ 16777216) (M.ret (.lst (a ++ b)))
  | .tup a, .tup b => M.grd (a.length + b.length ≤ 16777216) (M.ret (.tup (a ++ b)))
  | _, _ => M.no
theorem opd_add (fx : Fit X c) : OpD c (fun x y H Q => rI0 (fun i j => .int (i + j)) x y H Q ∨ (∃ i j, x = .str i ∧ y = .str j ∧ i.length + j.length ≤ sizeLine ∧ Q (.str (i ++ j)) H) ∨ rCat x y H Q ∨ rCatA X.K x y H Q) gAdd := by
  intro F H σ ρ x y d e Q r tx ty h
  rw [fx.k]
  cases tx with
  | int i =>
    cases ty with
    | int j => exact .inl ⟨i, j, rfl, rfl, h.ret r (.int _)⟩
    | _ => exact False.elim h
  | str i =>
    cases ty with
    | str j =>
      obtain ⟨z, h⟩ := Pst.grd (b := i.length + j.length ≤ 16777216) h
      exact .inr (.inl ⟨i, j, rfl, rfl, by rw [line_eq]; exact z, h.ret r (.str _)⟩)
    | _ => exact False.elim h
  | @lst a xs ds e1 t1 =>
    cases ty with
    | @lst b ys es e2 t2 =>
      obtain ⟨z, h⟩ := Pst.grd (b := ds.length + es.length ≤ 16777216) h
      exact .inr (.inr (.inl ⟨a, b, xs, ys, rfl, rfl, r.sub _ _ e1, r.sub _ _ e2, by rw [line_eq, t1.length, t2.length]; exact z, fun p hp => h.newLst r (t1.append t2) hp⟩))
    | _ => exact False.elim h
  | @tup a xs ds e1 t1 =>
    cases ty with
    | @tup b ys es e2 t2 =>
      obtain ⟨z, h⟩ := Pst.grd (b := ds.length + es.length ≤ 16777216) h
      refine .inr (.inr (.inr ⟨a, b, xs, ys, rfl, rfl, SqT.le r.sub e1, SqT.le r.sub e2, by rw [line_eq, t1.length, t2.length]; exact z, fun zx => ?_, fun _ zy => ?_, fun _ _ p hp => h.newTup r (t1.append t2) hp⟩))
      · subst zx; cases t1; exact h.ret r (.tup e2 t2)
      · subst zy; cases t2; rw [List.append_nil] at h; exact h.ret r (.tup e1 t1)
    | _ => exact False.elim h
  | _ => exact False.elim h
variable {a b : Expr} {fa fb : M D} {pos : Pos}
theorem de_add (fx : Fit X c) (ha : DE X c a fa) (hb : DE X c b fb) : DE X c (.BinOp a .Add b pos) (M.two fa fb gAdd) := de_bin (op_add.or (op_add_str.or (op_cat.or op_catA))) (opd_add fx) ha hb
def gInt (p : Int → Int → Bool) (g : Int → Int → D) : D → D → M D
  | .int i, .int j => M.grd (p i j) (M.ret (g i j))
  | _, _ => M.no
theorem Pst.grdB {p : Bool} {m : M D} {Q : VK} (h : Pst c σ F (M.grd p m ρ) Q) : p = true ∧ Pst c σ F (m ρ) Q := by
  unfold M.grd at h
  cases p with
  | true => exact ⟨rfl, h⟩
  | false => exact h.elim
theorem opd_I {C : Int → Int → Prop} {g : Int → Int → V} {p : Int → Int → Bool} {gd : Int → Int → D} (hp : ∀ i j, p i j = true → C i j) (t : ∀ F i j, c.Dt F (g i j) (gd i j)) : OpD c (rI C g) (gInt p gd) := by
  intro F H σ ρ x y d e Q r tx ty h
  cases tx with
  | int i =>
    cases ty with
    | int j =>
      obtain ⟨z, h⟩ := Pst.grdB (p := p i j) h
      exact ⟨i, j, rfl, rfl, hp i j z, h.ret r (t F i j)⟩
    | _ => exact False.elim h
  | _ => exact False.elim h
def gInt0 (g : Int → Int → D) : D → D → M D
  | .int i, .int j => M.ret (g i j)
  | _, _ => M.no
theorem opd_I0 {g : Int → Int → V} {gd : Int → Int → D} (t : ∀ F i j, c.Dt F (g i j) (gd i j)) : OpD c (rI0 g) (gInt0 gd) := by
  intro F H σ ρ x y d e Q r tx ty h
  cases tx with
  | int i =>
    cases ty with
    | int j => exact ⟨i, j, rfl, rfl, h.ret r (t F i j)⟩
    | _ => exact False.elim h
  | _ => exact False.elim h
def gSub := gInt0 fun i j => .int (i - j)
theorem de_sub (ha : DE X c a fa) (hb : DE X c b fb) : DE X c (.BinOp a .Sub b pos) (M.two fa fb gSub) := de_bin op_sub (opd_I0 fun _ _ _ => .int _) ha hb
def gMul := gInt (fun i j => (decide (-(2 ^ 64) < i) && decide (i < 2 ^ 64)) || (decide (-(2 ^ 64) < j) && decide (j < 2 ^ 64))) fun i j => .int (i * j)
theorem de_mul (ha : DE X c a fa) (hb : DE X c b fb) : DE X c (.BinOp a .Mult b pos) (M.two fa fb gMul) := de_bin op_mul (opd_I (fun i j h => by
  rcases Bool.or_eq_true_iff.mp h with h | h
  · obtain ⟨h1, h2⟩ := Bool.and_eq_true_iff.mp h; exact .inl ⟨of_decide_eq_true h1, of_decide_eq_true h2⟩
  · obtain ⟨h1, h2⟩ := Bool.and_eq_true_iff.mp h; exact .inr ⟨of_decide_eq_true h1, of_decide_eq_true h2⟩) fun _ _ _ => .int _) ha hb
def gDiv := gInt (fun _ j => decide (0 < j) && decide (j < 1073741824)) fun i j => .int (i / j)
theorem de_div (ha : DE X c a fa) (hb : DE X c b fb) : DE X c (.BinOp a .FloorDiv b pos) (M.two fa fb gDiv) := de_bin op_fdiv (opd_I (fun i j h => by
  obtain ⟨h1, h2⟩ := Bool.and_eq_true_iff.mp h; exact ⟨of_decide_eq_true h1, of_decide_eq_true h2⟩) fun _ _ _ => .int _) ha hb
def gMod := gInt (fun _ j => decide (0 < j)) fun i j => .int (i % j)
theorem de_mod (ha : DE X c a fa) (hb : DE X c b fb) : DE X c (.BinOp a .Mod b pos) (M.two fa fb gMod) := de_bin op_mod (opd_I (fun i j h => of_decide_eq_true h) fun _ _ _ => .int _) ha hb
def gPow := gInt (fun i j => decide (0 ≤ j) && (decide (j ≤ 1000000) && decide (i.natAbs < 2 ^ 64))) fun i j => .int (i ^ j.toNat)
theorem de_pow (ha : DE X c a fa) (hb : DE X c b fb) : DE X c (.BinOp a .Pow b pos) (M.two fa fb gPow) := de_bin op_pow (opd_I (fun i j h => by
  obtain ⟨h1, h2⟩ := Bool.and_eq_true_iff.mp h
  obtain ⟨h2, h3⟩ := Bool.and_eq_true_iff.mp h2
  exact ⟨of_decide_eq_true h1, of_decide_eq_true h2, of_decide_eq_true h3⟩) fun _ _ _ => .int _) ha hb
/-- a list times a number -/
def gRep : D → D → M D
  | .lst ds, .int k => M.grd (decide (-(2 ^ 63) ≤ k) && (decide (k < 2 ^ 63) && decide (ds.length * k.toNat ≤ 16777216))) (M.ret (.lst (List.replicate k.toNat ds).flatten))
  | _, _ => M.no
theorem Dts.rep {K : PySem.W.Frag} {mg : Str → Option Value} {F : Hp} {vs : List V} {ds : List D} (h : Dts K mg F vs ds) : ∀ k : Nat, Dts K mg F (List.replicate k vs).flatten (List.replicate k ds).flatten
  | 0 => .nil
  | k + 1 => by
    rw [List.replicate_succ, List.replicate_succ, List.flatten_cons, List.flatten_cons]
    exact h.append (h.rep k)
theorem de_rep (ha : DE X c a fa) (hb : DE X c b fb) : DE X c (.BinOp a .Mult b pos) (M.two fa fb gRep) := de_bin op_rep (by
  intro F H σ ρ x y d e Q r tx ty h
  cases tx with
  | @lst l xs ds e1 t1 =>
    cases ty with
    | int k =>
      obtain ⟨z, h⟩ := Pst.grdB (p := decide (-(2 ^ 63) ≤ k) && (decide (k < 2 ^ 63) && decide (ds.length * k.toNat ≤ 16777216))) h
      obtain ⟨z1, z2⟩ := Bool.and_eq_true_iff.mp z
      obtain ⟨z2, z3⟩ := Bool.and_eq_true_iff.mp z2
      exact ⟨l, k, xs, rfl, rfl, r.sub _ _ e1, of_decide_eq_true z1, of_decide_eq_true z2, by rw [line_eq, t1.length]; exact of_decide_eq_true z3, fun p hp => h.newLst r (t1.rep _) hp⟩
    | _ => exact False.elim h
  | _ => exact False.elim h) ha hb
/-- -i -/
def M.neg (fa : M D) : M D := fa.bind fun d => match d with
  | .int i => M.ret (.int (-i))
  | _ => M.no
theorem de_neg (ha : DE X c a fa) : DE X c (.UnaryOp .USub a pos) fa.neg := PEw (pe_un un_neg ha) fun σ H Q ⟨F, ρ, rr, h⟩ => ⟨F, ρ, rr, (Pst.bind h).mono (.refl _) fun v H1 ⟨F1, ρ1, d, r1, l1, t1, h1⟩ => by
  cases t1 with
  | int i => exact ⟨i, rfl, Pst.ret h1 r1 (.int _)⟩
  | _ => exact h1.elim⟩

/-! ### < <= > >= -/
def gLtS (lt : Int → Int → Bool) (ls : List Nat → List Nat → Bool) : D → D → M D
  | .int i, .int j => M.ret (.bl (lt i j))
  | .str x, .str y => M.ret (.bl (ls x.cps.toList y.cps.toList))
  | _, _ => M.no
def gLt := gLtS (fun i j => decide (i < j)) fun x y => decide (x < y)
def gLe := gLtS (fun i j => decide (i ≤ j)) fun x y => !decide (y < x)
def gGt := gLtS (fun i j => decide (j < i)) fun x y => decide (y < x)
def gGe := gLtS (fun i j => decide (j ≤ i)) fun x y => !decide (x < y)
theorem opd_ord {lt : Int → Int → Bool} {ls : List Nat → List Nat → Bool} : OpD c (fun x y H Q => rI0 (fun i j => .bl (lt i j)) x y H Q ∨ ∃ i j, x = .str i ∧ y = .str j ∧ Q (.bl (ls i.cps.toList j.cps.toList)) H) (gLtS lt ls) := by
  intro F H σ ρ x y d e Q r tx ty h
  cases tx with
  | int i =>
    cases ty with
    | int j => exact .inl ⟨i, j, rfl, rfl, h.ret r (.bl _)⟩
    | _ => exact False.elim h
  | str i =>
    cases ty with
    | str j => exact .inr ⟨i, j, rfl, rfl, h.ret r (.bl _)⟩
    | _ => exact False.elim h
  | _ => exact False.elim h
theorem de_lt (ha : DE X c a fa) (hb : DE X c b fb) : DE X c (.Compare a [.Lt] [b] pos) (M.two fa fb gLt) := de_cmp (op_lt.or op_lt_str) opd_ord ha hb (nomark _)
theorem de_le (ha : DE X c a fa) (hb : DE X c b fb) : DE X c (.Compare a [.LtE] [b] pos) (M.two fa fb gLe) := de_cmp (op_le.or op_le_str) opd_ord ha hb (nomark _)
theorem de_gt (ha : DE X c a fa) (hb : DE X c b fb) : DE X c (.Compare a [.Gt] [b] pos) (M.two fa fb gGt) := de_cmp (op_gt.or op_gt_str) opd_ord ha hb (nomark _)
theorem de_ge (ha : DE X c a fa) (hb : DE X c b fb) : DE X c (.Compare a [.GtE] [b] pos) (M.two fa fb gGe) := de_cmp (op_ge.or op_ge_str) opd_ord ha hb (nomark _)
theorem dt_lt (ha : DE X c a fa) (hb : DE X c b fb) : DT X c (.Compare a [.Lt] [b] pos) ((M.two fa fb gLt).bind M.tb) := dt_cmp (op_lt.or op_lt_str) opd_ord ha hb (nomark _)
theorem dt_le (ha : DE X c a fa) (hb : DE X c b fb) : DT X c (.Compare a [.LtE] [b] pos) ((M.two fa fb gLe).bind M.tb) := dt_cmp (op_le.or op_le_str) opd_ord ha hb (nomark _)
theorem dt_gt (ha : DE X c a fa) (hb : DE X c b fb) : DT X c (.Compare a [.Gt] [b] pos) ((M.two fa fb gGt).bind M.tb) := dt_cmp (op_gt.or op_gt_str) opd_ord ha hb (nomark _)
theorem dt_ge (ha : DE X c a fa) (hb : DE X c b fb) : DT X c (.Compare a [.GtE] [b] pos) ((M.two fa fb gGe).bind M.tb) := dt_cmp (op_ge.or op_ge_str) opd_ord ha hb (nomark _)
/-- a < b < e, with any two of the signs -/
def M.chain (fa fb fe : M D) (g g' : D → D → M D) : M D := fa.bind fun x => fb.bind fun y => (g x y).bind fun d => match d with
  | .bl true => fe.bind fun z => g' y z
  | .bl false => M.ret (.bl false)
  | _ => M.no
theorem de_chain {e : Expr} {fe : M D} {op op' : CmpOp} {r r' : R2} {g g' : D → D → M D} (ho : OpR X (compareOp op) r) (ho' : OpR X (compareOp op') r') (hg : OpD c r g) (hg' : OpD c r' g') (ha : DE X c a fa) (hb : DE X c b fb) (he : DE X c e fe)
    (hm : lastMarks [op, op'] [b, e] = false := by with_unfolding_all rfl) : DE X c (.Compare a [op, op'] [b, e] pos) (M.chain fa fb fe g g') :=
  PEw (pe_chain ho ho' ha hb he hm) fun σ H Q ⟨F, ρ, rr, h⟩ => ⟨F, ρ, rr, (Pst.bind h).mono (.refl _) fun x H1 ⟨F1, ρ1, d, r1, l1, t1, h1⟩ => ⟨F1, ρ1, r1, (Pst.bind h1).mono (.refl _) fun y H2 ⟨F2, ρ2, e, r2, l2, t2, h2⟩ =>
    hg F2 H2 σ ρ2 x y d e _ r2 (t1.le l2) t2 ((Pst.bind h2).mono (.refl _) fun z H3 ⟨F3, ρ3, k, r3, l3, t3, h3⟩ => by
      cases t3 with
      | bl k =>
        refine ⟨k, rfl, ?_⟩
        cases k with
        | true => exact iteT ⟨F3, ρ3, r3, (Pst.bind h3).mono (.refl _) fun w' H4 ⟨F4, ρ4, dz, r4, l4, t4, h4⟩ => hg' F4 H4 σ ρ4 y w' e dz Q r4 (t2.le (l3.trans l4)) t4 h4⟩
        | false => exact iteF (Pst.ret h3 r3 (.bl false))
      | _ => exact False.elim h3)⟩⟩
theorem de_lele {e : Expr} {fe : M D} (ha : DE X c a fa) (hb : DE X c b fb) (he : DE X c e fe) (hm : lastMarks [.LtE, .LtE] [b, e] = false := by with_unfolding_all rfl) : DE X c (.Compare a [.LtE, .LtE] [b, e] pos) (M.chain fa fb fe gLe gLe) := de_chain (op_le.or op_le_str) (op_le.or op_le_str) opd_ord opd_ord ha hb he hm

/-! ### == and != of data -/
mutual
def toPy : D → Option PyData
  | .non => some .none
  | .bl b => some (.bool b)
  | .int i => some (.int i)
  | .str x => some (.str x)
  | .lst ds => (toPys ds).map .list
  | .rol ds => (toPys ds).map .list
  | .tup ds => (toPys ds).map .tuple
  | _ => none
def toPys : List D → Option (List PyData)
  | [] => some []
  | d :: ds => match toPy d, toPys ds with
    | some p, some ps => some (p :: ps)
    | _, _ => none
end
mutual
theorem Dt.dp {K : PySem.W.Frag} {mg : Str → Option Value} {F H : Hp} (s : Le F H) : ∀ {v : V} {d : D} {p : PyData}, Dt K mg F v d → toPy d = some p → Dp K H v p
  | _, _, _, .non, e => by simp only [toPy, Option.some.injEq] at e; subst e; exact .non
  | _, _, _, .bl b, e => by simp only [toPy, Option.some.injEq] at e; subst e; exact .bl b
  | _, _, _, .int i, e => by simp only [toPy, Option.some.injEq] at e; subst e; exact .int i
  | _, _, _, .str x, e => by simp only [toPy, Option.some.injEq] at e; subst e; exact .str x
  | _, _, _, .lst h t, e => by
    simp only [toPy, Option.map_eq_some_iff] at e
    obtain ⟨ps, e1, e2⟩ := e
    subst e2
    exact .lst (s.sqL h) (t.dps s e1)
  | _, _, _, .rol h t, e => by
    simp only [toPy, Option.map_eq_some_iff] at e
    obtain ⟨ps, e1, e2⟩ := e
    subst e2
    exact .lst (SqL.le s h) (t.dps s e1)
  | _, _, _, .tup h t, e => by
    simp only [toPy, Option.map_eq_some_iff] at e
    obtain ⟨ps, e1, e2⟩ := e
    subst e2
    exact .tup (SqT.le s h) (t.dps s e1)
  | _, _, _, .dct _ _ _, e => by simp [toPy] at e
  | _, _, _, .ob _ _ _ _, e => by simp [toPy] at e
  | _, _, _, .ex _ _ _ _ _, e => by simp [toPy] at e
  | _, _, _, .ty _, e => by simp [toPy] at e
  | _, _, _, .cl _, e => by simp [toPy] at e
theorem Dts.dps {K : PySem.W.Frag} {mg : Str → Option Value} {F H : Hp} (s : Le F H) : ∀ {vs : List V} {ds : List D} {ps : List PyData}, Dts K mg F vs ds → toPys ds = some ps → DpAll K H vs ps
  | _, _, _, .nil, e => by simp only [toPys, Option.some.injEq] at e; subst e; exact .nil
  | _, d :: ds, ps, .cons h t, e => by
    cases e1 : toPy d with
    | none => simp [toPys, e1] at e
    | some p =>
      cases e2 : toPys ds with
      | none => simp [toPys, e1, e2] at e
      | some qs =>
        simp only [toPys, e1, e2, Option.some.injEq] at e
        subst e
        exact .cons (h.dp s e1) (t.dps s e2)
end
def gEqB (neg : Bool) (d e : D) : M D := match toPy d, toPy e with
  | some p, some q => M.grd (SeqAt.shaped p && SeqAt.shaped q) (M.ret (.bl (if neg then !PyData.eqv p q else PyData.eqv p q)))
  | _, _ => M.no
def gEq := gEqB false
def gNe := gEqB true
theorem eq_facts {neg : Bool} {d e : D} {Q : VK} (h : Pst c σ F (gEqB neg d e ρ) Q) : ∃ p q, toPy d = some p ∧ toPy e = some q ∧ SeqAt.shaped p = true ∧ SeqAt.shaped q = true ∧ Pst c σ F (M.ret (.bl (if neg then !PyData.eqv p q else PyData.eqv p q)) ρ) Q := by
  unfold gEqB at h
  cases e1 : toPy d with
  | none => rw [e1] at h; exact False.elim h
  | some p =>
    cases e2 : toPy e with
    | none => rw [e1, e2] at h; exact False.elim h
    | some q =>
      rw [e1, e2] at h
      obtain ⟨z, h⟩ := Pst.grdB (p := SeqAt.shaped p && SeqAt.shaped q) h
      obtain ⟨z1, z2⟩ := Bool.and_eq_true_iff.mp z
      exact ⟨p, q, rfl, rfl, z1, z2, h⟩
theorem opd_eq (fx : Fit X c) : OpD c (rEqD X.K) gEq := by
  intro F H σ ρ x y d e Q r tx ty h
  obtain ⟨p, q, e1, e2, z1, z2, h⟩ := eq_facts h
  rw [fx.k]
  exact ⟨p, q, tx.dp r.sub e1, ty.dp r.sub e2, z1, z2, h.ret r (.bl _)⟩
theorem opd_ne (fx : Fit X c) : OpD c (rNeD X.K) gNe := by
  intro F H σ ρ x y d e Q r tx ty h
  obtain ⟨p, q, e1, e2, z1, z2, h⟩ := eq_facts h
  rw [fx.k]
  exact ⟨p, q, tx.dp r.sub e1, ty.dp r.sub e2, z1, z2, h.ret r (.bl _)⟩
variable {k : Nat}
theorem de_eq (fx : Fit X c) (hr : Room k X.A) (ha : DE X c a fa) (hb : DE X c b fb) : DE X c (.Compare a [.Eq] [b] pos) (M.two fa fb gEq) := de_cmp (op_eqD hr.units) (opd_eq fx) ha hb (nomark _)
theorem de_ne (fx : Fit X c) (hr : Room k X.A) (ha : DE X c a fa) (hb : DE X c b fb) : DE X c (.Compare a [.NotEq] [b] pos) (M.two fa fb gNe) := de_cmp (op_neD hr.units) (opd_ne fx) ha hb (nomark _)
theorem dt_eq (fx : Fit X c) (hr : Room k X.A) (ha : DE X c a fa) (hb : DE X c b fb) : DT X c (.Compare a [.Eq] [b] pos) ((M.two fa fb gEq).bind M.tb) := dt_cmp (op_eqD hr.units) (opd_eq fx) ha hb (nomark _)
theorem dt_ne (fx : Fit X c) (hr : Room k X.A) (ha : DE X c a fa) (hb : DE X c b fb) : DT X c (.Compare a [.NotEq] [b] pos) ((M.two fa fb gNe).bind M.tb) := dt_cmp (op_neD hr.units) (opd_ne fx) ha hb (nomark _)

/-! ### is None, is not None -/
def D.isNon : D → Bool
  | .non => true
  | _ => false
theorem Dt.isNon {K : PySem.W.Frag} {mg : Str → Option Value} {v : V} {d : D} (t : Dt K mg F v d) : decide (v = .non) = d.isNon := by
  cases t <;> first | rfl | exact decide_eq_false (fun z => by cases z)
def gIsN (x y : D) : M D := match y with
  | .non => M.ret (.bl x.isNon)
  | _ => M.no
def gNotN (x y : D) : M D := match y with
  | .non => M.ret (.bl (!x.isNon))
  | _ => M.no
theorem opd_isN : OpD c (fun x y H Q => y = .non ∧ Q (.bl (decide (x = .non))) H) gIsN := by
  intro F H σ ρ x y d e Q r tx ty h
  cases ty with
  | non => exact ⟨rfl, by rw [tx.isNon]; exact h.ret r (.bl _)⟩
  | _ => exact False.elim h
theorem opd_notN : OpD c (fun x y H Q => y = .non ∧ Q (.bl (!decide (x = .non))) H) gNotN := by
  intro F H σ ρ x y d e Q r tx ty h
  cases ty with
  | non => exact ⟨rfl, by rw [tx.isNon]; exact h.ret r (.bl _)⟩
  | _ => exact False.elim h
theorem de_isN (ha : DE X c a fa) (hb : DE X c b fb) : DE X c (.Compare a [.Is] [b] pos) (M.two fa fb gIsN) := de_cmp op_isN opd_isN ha hb (nomark _)
theorem dt_isN (ha : DE X c a fa) (hb : DE X c b fb) : DT X c (.Compare a [.Is] [b] pos) ((M.two fa fb gIsN).bind M.tb) := dt_cmp op_isN opd_isN ha hb (nomark _)
theorem dt_notN (ha : DE X c a fa) (hb : DE X c b fb) : DT X c (.Compare a [.IsNot] [b] pos) ((M.two fa fb gNotN).bind M.tb) := dt_cmp op_notN opd_notN ha hb (nomark _)

/-! ### in, not in: a text in a text; a flat datum in a list or tuple of flat ones -/
def D.flat : D → Option V
  | .non => some .non
  | .bl b => some (.bl b)
  | .int i => some (.int i)
  | .str x => some (.str x)
  | _ => none
def flats : List D → Option (List V)
  | [] => some []
  | d :: ds => match d.flat, flats ds with
    | some v, some vs => some (v :: vs)
    | _, _ => none
theorem Dt.flat {K : PySem.W.Frag} {mg : Str → Option Value} {v w : V} {d : D} (t : Dt K mg F v d) (e : d.flat = some w) : v = w ∧ flatV w = true := by
  cases t <;> simp only [D.flat, Option.some.injEq, reduceCtorEq] at e <;> subst e <;> exact ⟨rfl, rfl⟩
theorem Dts.flats {K : PySem.W.Frag} {mg : Str → Option Value} : ∀ {vs ws : List V} {ds : List D}, Dts K mg F vs ds → DL.flats ds = some ws → vs = ws ∧ ws.all flatV = true
  | _, _, _, .nil, e => by simp only [DL.flats, Option.some.injEq] at e; subst e; exact ⟨rfl, rfl⟩
  | _, _, d :: ds, .cons h t, e => by
    cases e1 : d.flat with
    | none => simp [DL.flats, e1] at e
    | some v =>
      cases e2 : DL.flats ds with
      | none => simp [DL.flats, e1, e2] at e
      | some us =>
        simp only [DL.flats, e1, e2, Option.some.injEq] at e
        subst e
        obtain ⟨a1, a2⟩ := h.flat e1
        obtain ⟨b1, b2⟩ := t.flats e2
        subst a1 b1
        exact ⟨rfl, by rw [List.all_cons, a2, b2]; rfl⟩
def gInS (neg : Bool) (x : D) (ds : List D) : M D := match x.flat, flats ds with
  | some v, some vs => M.ret (.bl (if neg then !inV v vs else inV v vs))
  | _, _ => M.no
def strIn (x y : Str) : Bool := !(Builtin.Str.occurrences y x 0 y.length 1).isEmpty
def gInB (neg : Bool) (x y : D) : M D := match x, y with
  | .str i, .str j => M.ret (.bl (if neg then !strIn i j else strIn i j))
  | x, .lst ds => gInS neg x ds
  | x, .rol ds => gInS neg x ds
  | x, .tup ds => gInS neg x ds
  | _, _ => M.no
theorem in_seq {neg : Bool} {x : V} {d : D} {xs : List V} {ds : List D} {p : Addr} {Q : VK} (r : R c F H σ ρ) (tx : c.Dt F x d) (hp : SqL c.K H p xs ∨ SqT c.K H p xs) (t : c.Dts F xs ds) (h : Pst c σ F (gInS neg d ds ρ) Q) : rIn c.K neg x (.ref p) H Q := by
  unfold gInS at h
  cases e1 : d.flat with
  | none => rw [e1] at h; exact False.elim h
  | some v =>
    cases e2 : flats ds with
    | none => rw [e1, e2] at h; exact False.elim h
    | some vs =>
      rw [e1, e2] at h
      obtain ⟨a1, a2⟩ := tx.flat e1
      obtain ⟨b1, b2⟩ := t.flats e2
      subst a1 b1
      exact ⟨p, xs, rfl, hp, a2, b2, h.ret r (.bl _)⟩
theorem opd_in (fx : Fit X c) {neg : Bool} : OpD c (fun x y H Q => (∃ i j, x = .str i ∧ y = .str j ∧ Q (.bl (if neg then !strIn i j else strIn i j)) H) ∨ rIn X.K neg x y H Q) (gInB neg) := by
  intro F H σ ρ x y d e Q r tx ty h
  rw [fx.k]
  cases ty with
  | str j =>
    cases tx with
    | str i => exact .inl ⟨i, j, rfl, rfl, h.ret r (.bl _)⟩
    | _ => exact False.elim h
  | @lst p xs ds e1 t1 =>
    have h : Pst c σ F (gInS neg d ds ρ) Q := by cases d <;> exact h
    exact .inr (in_seq r tx (.inl (r.sub.sqL e1)) t1 h)
  | @rol p xs ds e1 t1 =>
    have h : Pst c σ F (gInS neg d ds ρ) Q := by cases d <;> exact h
    exact .inr (in_seq r tx (.inl (SqL.le r.sub e1)) t1 h)
  | @tup p xs ds e1 t1 =>
    have h : Pst c σ F (gInS neg d ds ρ) Q := by cases d <;> exact h
    exact .inr (in_seq r tx (.inr (SqT.le r.sub e1)) t1 h)
  | _ => exact False.elim (by cases d <;> exact h)
def gIn := gInB false
def gNi := gInB true
theorem de_in (fx : Fit X c) (ha : DE X c a fa) (hb : DE X c b fb) (hm : behindInMarks .In b = false := by rfl) : DE X c (.Compare a [.In] [b] pos) (M.two fa fb gIn) := de_cmp (op_in_str.or op_in_seq) (opd_in fx) ha hb hm
theorem de_ni (fx : Fit X c) (ha : DE X c a fa) (hb : DE X c b fb) (hm : behindInMarks .NotIn b = false := by rfl) : DE X c (.Compare a [.NotIn] [b] pos) (M.two fa fb gNi) := de_cmp (L2.op_notIn_str.or op_notIn_seq) (opd_in fx) ha hb hm
theorem dt_in (fx : Fit X c) (ha : DE X c a fa) (hb : DE X c b fb) (hm : behindInMarks .In b = false := by rfl) : DT X c (.Compare a [.In] [b] pos) ((M.two fa fb gIn).bind M.tb) := dt_cmp (op_in_str.or op_in_seq) (opd_in fx) ha hb hm
theorem dt_ni (fx : Fit X c) (ha : DE X c a fa) (hb : DE X c b fb) (hm : behindInMarks .NotIn b = false := by rfl) : DT X c (.Compare a [.NotIn] [b] pos) ((M.two fa fb gNi).bind M.tb) := dt_cmp (L2.op_notIn_str.or op_notIn_seq) (opd_in fx) ha hb hm
end
end DL

set_option Elab.async false
set_option linter.all false
set_option maxRecDepth 100000
set_option maxHeartbeats 4000000
/-! DL5: what is walked; for, list comprehensions; targets. -/
namespace DL
open PySem PySem.Spec PyProof.Rows L2
section
variable {X : Cx} {c : Fc} {F H : Hp} {σ : L2.St} {ρ : Sls}

/-! ### what is walked: an iterator that gives out these data -/
structure ItD (c : Fc) (F : Hp) (J : It) (ds : List D) : Prop where
  stop : ∀ (i : Nat) F' H', Le F F' → Le F' H' → ds.length ≤ i → J.stop i H'
  go : ∀ (i : Nat) (d : D) F' H', Le F F' → Le F' H' → ds[i]? = some d → J.go i H' ∧ ∀ x H2, J.yld i H' x H2 → ∃ F2, Ext c.T F' H' F2 H2 ∧ c.Dt F2 x d
theorem ItD.le {F F1 : Hp} {J : It} {ds : List D} (h : ItD c F J ds) (l : Le F F1) : ItD c F1 J ds :=
  ⟨fun i F' H' a b => h.stop i F' H' (l.trans a) b, fun i d F' H' a b => h.go i d F' H' (l.trans a) b⟩
def PIt (c : Fc) (σ : L2.St) (F : Hp) (r : Ret (List D)) (Q : It → Hp → Prop) : Prop := match r with
  | .ok ds ρ' => ∀ J F' H', R c F' H' σ ρ' → Le F F' → ItD c F' J ds → Q J H'
  | .er k fs ρ' => ∀ C dd F' H' fv, c.mg k = some (.ref C) → R c F' H' σ ρ' → Le F F' → F' dd = some (.xd fv) → fv.map (·.1) = fs.map (·.1) → c.Dts F' (fv.map (·.2)) (fs.map (·.2)) → c.W (.ref C) (some dd) σ H'
  | .no => False
def tIt (c : Fc) (f : M (List D)) : TI := fun σ H Q => ∃ F ρ, R c F H σ ρ ∧ PIt c σ F (f ρ) Q
def DI (X : Cx) (c : Fc) (tg e : Expr) (f : M (List D)) : Prop := PI X tg e (tIt c f)
theorem PIw {tg e : Expr} {t t' : TI} (h : PI X tg e t) (w : ∀ σ H Q, t' σ H Q → t σ H Q) : PI X tg e t' := ⟨fun pins s σ H Q I q => h.run pins s σ H Q I (w _ _ _ q)⟩
theorem PIt.bind {m : M D} {k : D → M (List D)} {Q : It → Hp → Prop} (h : PIt c σ F ((m.bind k) ρ) Q) : Pst c σ F (m ρ) fun v H1 => ∃ F1 ρ1 d, R c F1 H1 σ ρ1 ∧ Le F F1 ∧ c.Dt F1 v d ∧ PIt c σ F1 (k d ρ1) Q := by
  unfold M.bind at h
  cases e : m ρ with
  | ok d ρ' =>
    rw [e] at h
    refine fun v F' H' a b t => ⟨F', ρ', d, a, b, t, ?_⟩
    dsimp only at h
    cases e2 : k d ρ' with
    | ok ds ρ2 => rw [e2] at h; exact fun J F2 H2 r l i => h J F2 H2 r (b.trans l) i
    | er k fs ρ2 => rw [e2] at h; exact fun C dd F2 H2 fv m r l => h C dd F2 H2 fv m r (b.trans l)
    | no => rw [e2] at h; exact h
  | er c fs ρ' => rw [e] at h; exact h
  | no => rw [e] at h; exact h
theorem PIt.bindA {m : M (List D)} {k : List D → M (List D)} {Q : It → Hp → Prop} (h : PIt c σ F ((m.bind k) ρ) Q) : Psts c σ F (m ρ) fun v H1 => ∃ F1 ρ1 d, R c F1 H1 σ ρ1 ∧ Le F F1 ∧ c.Dts F1 v d ∧ PIt c σ F1 (k d ρ1) Q := by
  unfold M.bind at h
  cases e : m ρ with
  | ok d ρ' =>
    rw [e] at h
    refine fun v F' H' a b t => ⟨F', ρ', d, a, b, t, ?_⟩
    dsimp only at h
    cases e2 : k d ρ' with
    | ok ds ρ2 => rw [e2] at h; exact fun J F2 H2 r l i => h J F2 H2 r (b.trans l) i
    | er k fs ρ2 => rw [e2] at h; exact fun C dd F2 H2 fv m r l => h C dd F2 H2 fv m r (b.trans l)
    | no => rw [e2] at h; exact h
  | er c fs ρ' => rw [e] at h; exact h
  | no => rw [e] at h; exact h
theorem itd_list {a : Addr} {xs : List V} {ds : List D} (h : SqL c.K F a xs) (t : c.Dts F xs ds) (inj : ∀ (H' : Hp) ys, Le F H' → SqL c.K H' a ys → ys = xs) : ItD c F (Itl c.K a) ds where
  stop := fun i F' H' l s hi => ⟨xs, SqL.le (l.trans s) h, by rw [t.length]; exact hi⟩
  go := fun i d F' H' l s hi => by
    obtain ⟨x, hx, dx⟩ := t.get hi
    refine ⟨⟨xs, x, SqL.le (l.trans s) h, hx⟩, fun y H2 ⟨e, z⟩ => ⟨F', by subst e; exact .refl s, ?_⟩⟩
    have e := z xs (SqL.le (l.trans s) h)
    rw [hx] at e
    cases e
    exact dx.le l
theorem itd_tup {a : Addr} {xs : List V} {ds : List D} (h : SqT c.K F a xs) (t : c.Dts F xs ds) : ItD c F (Itt c.K a) ds where
  stop := fun i F' H' l s hi => ⟨xs, SqT.le (l.trans s) h, by rw [t.length]; exact hi⟩
  go := fun i d F' H' l s hi => by
    obtain ⟨x, hx, dx⟩ := t.get hi
    refine ⟨⟨xs, x, SqT.le (l.trans s) h, hx⟩, fun y H2 ⟨e, z⟩ => ⟨F', by subst e; exact .refl s, ?_⟩⟩
    have e := z xs (SqT.le (l.trans s) h)
    rw [hx] at e
    cases e
    exact dx.le l
variable {tg a b : Expr} {fa fb : M D} {fs : M (List D)} {pos p : Pos}
/-- over a list -/
def itemsL : D → M (List D)
  | .lst ds | .rol ds => M.ret ds
  | _ => M.no
theorem di_list (fx : Fit X c) (ha : DE X c a fa) : DI X c tg a (fa.bind itemsL) := PIw (pi_list ha) fun σ H Q ⟨F, ρ, rr, h⟩ => ⟨F, ρ, rr, (PIt.bind h).mono (.refl _) fun v H1 ⟨F1, ρ1, d, r1, l1, t1, h1⟩ => by
  rw [fx.k]
  cases t1 with
  | @lst a xs ds e t => exact ⟨a, rfl, ⟨xs, r1.sub.sqL e⟩, h1 _ F1 H1 r1 (.refl _) ⟨fun i F' H' l s hi => ⟨xs, .inl (.inl (s _ _ (l _ _ e))), by rw [t.length]; exact hi⟩, fun i d F' H' l s hi => by
      obtain ⟨x, hx, dx⟩ := t.get hi
      have q : SqL c.K H' a xs := .inl (.inl (s _ _ (l _ _ e)))
      refine ⟨⟨xs, x, q, hx⟩, fun y H2 ⟨e, z⟩ => ⟨F', by subst e; exact .refl s, ?_⟩⟩
      have e := z xs q
      rw [hx] at e
      cases e
      exact dx.le l⟩⟩
  | @rol a xs ds e t => exact ⟨a, rfl, ⟨xs, SqL.le r1.sub e⟩, h1 _ F1 H1 r1 (.refl _) ⟨fun i F' H' l s hi => ⟨xs, SqL.le (l.trans s) e, by rw [t.length]; exact hi⟩, fun i d F' H' l s hi => by
      obtain ⟨x, hx, dx⟩ := t.get hi
      have q : SqL c.K H' a xs := SqL.le (l.trans s) e
      refine ⟨⟨xs, x, q, hx⟩, fun y H2 ⟨e, z⟩ => ⟨F', by subst e; exact .refl s, ?_⟩⟩
      have e := z xs q
      rw [hx] at e
      cases e
      exact dx.le l⟩⟩
  | _ => exact False.elim h1⟩
/-- over a tuple -/
def itemsT : D → M (List D)
  | .tup ds => M.ret ds
  | _ => M.no
theorem di_tup (fx : Fit X c) (ha : DE X c a fa) : DI X c tg a (fa.bind itemsT) := PIw (pi_tup ha) fun σ H Q ⟨F, ρ, rr, h⟩ => ⟨F, ρ, rr, (PIt.bind h).mono (.refl _) fun v H1 ⟨F1, ρ1, d, r1, l1, t1, h1⟩ => by
  rw [fx.k]
  cases t1 with
  | @tup a xs ds e t => exact ⟨a, rfl, ⟨xs, SqT.le r1.sub e⟩, h1 _ F1 H1 r1 (.refl _) (itd_tup e t)⟩
  | _ => exact False.elim h1⟩
/-- over a text's signs -/
def signs (x : Str) : List D := x.cps.toList.map fun n => .str ⟨#[n]⟩
def itemsS : D → M (List D)
  | .str x => M.ret (signs x)
  | _ => M.no
theorem itd_str {x : Str} : ItD c F (Its x) (signs x) where
  stop := fun i F' H' l s hi => by
    have e : (signs x).length = x.cps.size := by unfold signs; rw [List.length_map, Array.length_toList]
    rw [e] at hi
    exact hi
  go := fun i d F' H' l s hi => by
    unfold signs at hi
    rw [List.getElem?_map] at hi
    cases e : x.cps.toList[i]? with
    | none => rw [e] at hi; cases hi
    | some n =>
      rw [e] at hi
      have lt : i < x.cps.size := by
        have := (List.getElem?_eq_some_iff.mp e).1
        rwa [Array.length_toList] at this
      refine ⟨lt, fun y H2 ⟨e1, n', e2, e3⟩ => ⟨F', by subst e1; exact .refl s, ?_⟩⟩
      have e4 : x.cps.toList[i]? = some n' := by rw [← e2]; exact Array.getElem?_toList
      rw [e] at e4
      cases e4
      cases hi
      subst e3
      exact .str _
theorem di_str (ha : DE X c a fa) : DI X c tg a (fa.bind itemsS) := PIw (pi_str ha) fun σ H Q ⟨F, ρ, rr, h⟩ => ⟨F, ρ, rr, (PIt.bind h).mono (.refl _) fun v H1 ⟨F1, ρ1, d, r1, l1, t1, h1⟩ => by
  cases t1 with
  | str x => exact ⟨x, rfl, h1 _ F1 H1 r1 (.refl _) itd_str⟩
  | _ => exact False.elim h1⟩
/-- over range(n), range(i, j) -/
def rangeD (lo : Int) (n : Nat) : List D := (List.range n).map fun (k : Nat) => .int (lo + k)
theorem rangeD_at {lo : Int} {n i : Nat} {d : D} (h : (rangeD lo n)[i]? = some d) : i < n ∧ d = .int (lo + i) := by
  unfold rangeD at h
  rw [List.getElem?_map] at h
  by_cases z : i < n
  · rw [List.getElem?_range z] at h
    exact ⟨z, (Option.some.inj h).symm⟩
  · rw [List.getElem?_eq_none (by rw [List.length_range]; exact Nat.le_of_not_lt z)] at h; cases h
theorem itd_range {lo : Int} {n : Nat} : ItD c F (Itr lo n) (rangeD lo n) where
  stop := fun i F' H' l s hi => by
    unfold rangeD at hi
    rw [List.length_map, List.length_range] at hi
    exact hi
  go := fun i d F' H' l s hi => by
    obtain ⟨z, e⟩ := rangeD_at hi
    refine ⟨z, fun y H2 ⟨e1, e2⟩ => ⟨F', by subst e1; exact .refl s, ?_⟩⟩
    subst e e2
    exact .int _
def big (j : Int) : Bool := decide (-(2 ^ 62) ≤ j) && decide (j < 2 ^ 62)
theorem big_of {j : Int} (h : big j = true) : -(2 ^ 62) ≤ j ∧ j < 2 ^ 62 := by
  obtain ⟨a, b⟩ := Bool.and_eq_true_iff.mp h
  exact ⟨of_decide_eq_true a, of_decide_eq_true b⟩
theorem PIt.grdB {p : Bool} {m : M (List D)} {Q : It → Hp → Prop} (h : PIt c σ F (M.grd p m ρ) Q) : p = true ∧ PIt c σ F (m ρ) Q := by
  unfold M.grd at h
  cases p with
  | true => exact ⟨rfl, h⟩
  | false => exact h.elim
def range1 : List D → M (List D)
  | [.int j] => M.grd (big j) (M.ret (rangeD 0 j.toNat))
  | _ => M.no
def range2 : List D → M (List D)
  | [.int i, .int j] => M.grd (big i && big j) (M.ret (rangeD i (j - i).toNat))
  | _ => M.no
theorem di_range1 (hg : Gl X "range") (hm : X.mg "range" = none) (ha : DA X c [a] fs) (hs : starEach [a] X.env = [(false, eval a X.env)] := by rfl) : DI X c tg (.Call (.Name "range" p) [a] [] pos) (fs.bind range1) :=
  PIw (pi_range1 hg hm ha hs) fun σ H Q ⟨F, ρ, rr, h⟩ => ⟨F, ρ, rr, (PIt.bindA h).mono (.refl _) fun vs H1 ⟨F1, ρ1, ds, r1, l1, t1, h1⟩ => by
    cases t1 with
    | nil => exact False.elim h1
    | cons t tt =>
      cases tt with
      | cons _ _ => exact False.elim (by cases t <;> exact h1)
      | nil =>
        cases t with
        | int j =>
          obtain ⟨z, h1⟩ := PIt.grdB (p := big j) h1
          obtain ⟨z1, z2⟩ := big_of z
          exact ⟨j, rfl, z1, z2, h1 _ F1 H1 r1 (.refl _) itd_range⟩
        | _ => exact False.elim h1⟩
theorem di_range2 (hg : Gl X "range") (hm : X.mg "range" = none) (ha : DA X c [a, b] fs) (hs : starEach [a, b] X.env = [(false, eval a X.env), (false, eval b X.env)] := by rfl) (hs2 : starEach [b] X.env = [(false, eval b X.env)] := by rfl) :
    DI X c tg (.Call (.Name "range" p) [a, b] [] pos) (fs.bind range2) :=
  PIw (pi_range2 hg hm ha hs hs2) fun σ H Q ⟨F, ρ, rr, h⟩ => ⟨F, ρ, rr, (PIt.bindA h).mono (.refl _) fun vs H1 ⟨F1, ρ1, ds, r1, l1, t1, h1⟩ => by
    cases t1 with
    | nil => exact False.elim h1
    | cons t tt =>
      cases tt with
      | nil => exact False.elim (by cases t <;> exact h1)
      | cons u uu =>
        cases uu with
        | cons _ _ => exact False.elim (by cases t <;> cases u <;> exact h1)
        | nil =>
          cases t with
          | int i =>
            cases u with
            | int j =>
              obtain ⟨z, h1⟩ := PIt.grdB (p := big i && big j) h1
              obtain ⟨za, zb⟩ := Bool.and_eq_true_iff.mp z
              obtain ⟨z1, z2⟩ := big_of za
              obtain ⟨z3, z4⟩ := big_of zb
              exact ⟨i, j, rfl, ⟨z1, z2, z3, z4⟩, h1 _ F1 H1 r1 (.refl _) itd_range⟩
            | _ => exact False.elim h1
          | _ => exact False.elim (by cases u <;> exact h1)⟩
/-- enumerate(a list) -/
def pairsD (ds : List D) : List D := (List.range ds.length).map fun (k : Nat) => .tup [.int (k : Nat), ds.getD k .non]
def enumD : List D → M (List D)
  | [.lst ds] | [.rol ds] => M.ret (pairsD ds)
  | _ => M.no
theorem pairsD_at {ds : List D} {i : Nat} {d : D} (h : (pairsD ds)[i]? = some d) : ∃ x, ds[i]? = some x ∧ d = .tup [.int (i : Nat), x] := by
  unfold pairsD at h
  rw [List.getElem?_map] at h
  by_cases z : i < ds.length
  · rw [List.getElem?_range z] at h
    refine ⟨ds[i], List.getElem?_eq_getElem z, ?_⟩
    have e : ds.getD i .non = ds[i] := by rw [List.getD_eq_getElem?_getD, List.getElem?_eq_getElem z]; rfl
    have h' : d = .tup [.int (i : Nat), ds.getD i .non] := (Option.some.inj h).symm
    rw [e] at h'
    exact h'
  · rw [List.getElem?_eq_none (by rw [List.length_range]; exact Nat.le_of_not_lt z)] at h; cases h
theorem pairsD_len (ds : List D) : (pairsD ds).length = ds.length := by unfold pairsD; rw [List.length_map, List.length_range]
theorem pair_dt {F' H' : Hp} {T : Addr} {i : Nat} {y : V} {d : D} (s : Le F' H') (hT : H' T = none) (dy : c.Dt F' y d) : ∃ F2, Ext c.T F' H' F2 (upd H' T (.tup [.int (i : Nat), y])) ∧ c.Dt F2 (.ref T) (.tup [.int (i : Nat), d]) := by
  have e : Ext c.T F' H' (upd F' T (.tup [.int (i : Nat), y])) (upd H' T (.tup [.int (i : Nat), y])) := .new s hT
  exact ⟨_, e, .tup (SqT.of upd_same) (.cons (.int _) (.cons (dy.le (e.le s)) .nil))⟩
theorem di_enum {elts : List Expr} {kk : Nat} {tpos : Pos} (fx : Fit X c) (hg : Gl X "enumerate") (hm : X.mg "enumerate" = none) (ha : DA X c [a] fs) (hs : starEach [a] X.env = [(false, eval a X.env)] := by rfl) : DI X c (.Tuple elts kk tpos) (.Call (.Name "enumerate" p) [a] [] pos) (fs.bind enumD) :=
  PIw (pi_enum hg hm ha hs) fun σ H Q ⟨F, ρ, rr, h⟩ => ⟨F, ρ, rr, (PIt.bindA h).mono (.refl _) fun vs H1 ⟨F1, ρ1, ds, r1, l1, t1, h1⟩ => by
    rw [fx.k]
    have key : ∀ {a : Addr} {xs : List V} {es : List D}, (∀ F' H', Le F1 F' → Le F' H' → SqL c.K H' a xs) → c.Dts F1 xs es → PIt c σ F1 (M.ret (pairsD es) ρ1) Q → ∃ b ys, [V.ref a] = [V.ref b] ∧ SqL c.K H1 b ys ∧ Q (Ite c.K b) H1 := fun {a xs es} q t h => ⟨a, xs, rfl, q F1 H1 (.refl _) r1.sub, h _ F1 H1 r1 (.refl _)
      ⟨fun i F' H' l s hi => ⟨xs, q F' H' l s, by rw [pairsD_len] at hi; rw [t.length]; exact hi⟩, fun i d F' H' l s hi => by
        obtain ⟨x, e1, e2⟩ := pairsD_at hi
        subst e2
        obtain ⟨y, hy, dy⟩ := t.get e1
        refine ⟨⟨xs, y, q F' H' l s, hy⟩, fun z H2 ⟨T, y', ez, hT, eH, q'⟩ => ?_⟩
        have e := q' xs (q F' H' l s)
        rw [hy] at e
        cases e
        subst ez eH
        exact pair_dt s hT (dy.le l)⟩⟩
    cases t1 with
    | nil => exact False.elim h1
    | cons t tt =>
      cases tt with
      | cons _ _ => exact False.elim (by cases t <;> exact h1)
      | nil =>
        cases t with
        | lst e t => exact key (fun F' H' l s => .inl (.inl (s _ _ (l _ _ e)))) t h1
        | rol e t => exact key (fun F' H' l s => SqL.le (l.trans s) e) t h1
        | _ => exact False.elim h1⟩

/-! ### targets: which slots they store, and what -/
abbrev Tg := D → Sls → Option Sls
def tTg (c : Fc) (ix : List Nat) (g : Tg) : TG := fun v σ H Q => ∃ F ρ d ρ', R c F H σ ρ ∧ c.Dt F v d ∧ g d ρ = some ρ' ∧ ∀ σ', R c F H σ' ρ' → (∀ j, j ∉ ix → σ'[j]? = σ[j]?) → σ'.length = σ.length → Q σ' H
def DG (X : Cx) (c : Fc) (tg : Expr) (ix : List Nat) (g : Tg) : Prop := PG X tg (tTg c ix g)
theorem PGw {e : Expr} {t t' : TG} (h : PG X e t) (w : ∀ v σ H Q, t' v σ H Q → t v σ H Q) : PG X e t' := ⟨fun pins s σ H v u Q I r q => h.run pins s σ H v u Q I r (w _ _ _ _ q)⟩
def Tg.name (i : Nat) : Tg := fun d ρ => some (ρ.set i (.im d))
theorem dg_name {i : Nat} {x : Str} (hN : X.N.Nodup) (hi : X.N[i]? = some x) (hx : Loc X.env.scope x) (hf : X.fn x = true ∨ X.env.scope.names.lookup x = some .local := by first | exact .inl rfl | exact .inr rfl | assumption) : DG X c (.Name x pos) [i] (Tg.name i) :=
  PGw (pg_name hN hi hx hf) fun v σ H Q ⟨F, ρ, d, ρ', r, t, e, q⟩ => by
    cases e
    exact q _ (r.setIm t) (fun j hj => List.getElem?_set_ne (fun z => hj (by rw [z]; exact List.mem_singleton.mpr rfl))) (List.length_set ..)
abbrev Tgs := List D → Sls → Option Sls
def tTgs (c : Fc) (ix : List Nat) (g : Tgs) : TGs := fun vs σ H Q => ∃ F ρ ds ρ', R c F H σ ρ ∧ c.Dts F vs ds ∧ g ds ρ = some ρ' ∧ ∀ σ', R c F H σ' ρ' → (∀ j, j ∉ ix → σ'[j]? = σ[j]?) → σ'.length = σ.length → Q σ' H
def DGs (X : Cx) (c : Fc) (ts : List Expr) (ix : List Nat) (g : Tgs) : Prop := PGs X ts (tTgs c ix g)
theorem PGsw {e : List Expr} {t t' : TGs} (h : PGs X e t) (w : ∀ v σ H Q, t' v σ H Q → t v σ H Q) : PGs X e t' := ⟨fun pins s σ H v u Q I r q => h.run pins s σ H v u Q I r (w _ _ _ _ q)⟩
def Tgs.nil : Tgs := fun ds ρ => match ds with
  | [] => some ρ
  | _ => none
def Tgs.cons (g : Tg) (gs : Tgs) : Tgs := fun ds ρ => match ds with
  | d :: ds => (g d ρ).bind (gs ds)
  | [] => none
theorem dgs_nil : DGs X c [] [] Tgs.nil := PGsw pgs_nil fun vs σ H Q ⟨F, ρ, ds, ρ', r, t, e, q⟩ => by
  cases t with
  | nil => cases e; exact ⟨rfl, q σ r (fun _ _ => rfl) rfl⟩
  | cons _ _ => cases e
theorem dgs_cons {e : Expr} {es : List Expr} {i j : List Nat} {g : Tg} {gs : Tgs} (h1 : DG X c e i g) (h2 : DGs X c es j gs) (hs : (assignEach (e :: es) X.env).map (·.2) = assign e X.env :: (assignEach es X.env).map (·.2) := by rfl) : DGs X c (e :: es) (i ++ j) (Tgs.cons g gs) :=
  PGsw (pgs_cons h1 h2 hs) fun vs σ H Q ⟨F, ρ, ds, ρ', r, t, e, q⟩ => by
    cases t with
    | nil => cases e
    | @cons v vs d ds td tds =>
      unfold Tgs.cons at e
      dsimp only at e
      cases e1 : g d ρ with
      | none => rw [e1] at e; cases e
      | some ρ1 =>
        rw [e1] at e
        refine ⟨v, vs, rfl, F, ρ, d, ρ1, r, td, e1, fun σ1 r1 k1 l1 => ⟨F, ρ1, ds, ρ', r1, tds, e, fun σ2 r2 k2 l2 => q σ2 r2 (fun n hn => ?_) (l2.trans l1)⟩⟩
        rw [k2 n (fun z => hn (List.mem_append_right _ z)), k1 n (fun z => hn (List.mem_append_left _ z))]
def Tg.tup (n : Nat) (g : Tgs) : Tg := fun d ρ => match d with
  | .tup ds => if ds.length = n then g ds ρ else none
  | _ => none
theorem dg_tup (fx : Fit X c) {es : List Expr} {k n : Nat} {ix : List Nat} {g : Tgs} (hc : X.calm = true) (h : DGs X c es ix g) (hn : (assignEach es X.env).length = n := by rfl) (hst : (assignEach es X.env).findIdx? (·.1) = none := by rfl) : DG X c (.Tuple es k pos) ix (Tg.tup n g) :=
  PGw (pg_tup hc h hn hst) fun v σ H Q ⟨F, ρ, d, ρ', r, t, e, q⟩ => by
    rw [fx.k]
    cases t with
    | @tup a xs ds e1 t1 =>
      by_cases z : ds.length = n
      · have e : g ds ρ = some ρ' := by
          have e2 : (if ds.length = n then g ds ρ else none) = some ρ' := e
          rw [if_pos z] at e2; exact e2
        exact ⟨a, xs, rfl, SqT.le r.sub e1, by rw [t1.length]; exact z, F, ρ, ds, ρ', r, t1, e, q⟩
      · have e2 : (if ds.length = n then g ds ρ else none) = some ρ' := e
        rw [if_neg z] at e2; cases e2
    | _ => cases e

/-- targets = e -/
def M.tgt (g : Tg) (d : D) : M Out := fun ρ => match g d ρ with
  | some ρ' => .ok .nx ρ'
  | none => .no
theorem ds_asg {tg e : Expr} {f : M D} {ix : List Nat} {g : Tg} (he : DE X c e f) (hg : DG X c tg ix g) (hs : swapsWithSole [tg] e pos.line X.env = pure false := by rfl) (hw : swappedStores [tg] e X.env = pure none := by rfl)
    (h1 : (assignEach [tg] X.env).map (·.2) = [assign tg X.env] := by rfl) : DS X c (.Assign [tg] e pos) (f.bind (M.tgt g)) := PSw (ps_asg he hg hs hw h1) fun D σ H ⟨F, ρ, r, h⟩ =>
  ⟨F, ρ, r, (Sst.bind (σ := σ) h).mono (.refl _) fun v H1 ⟨F1, ρ1, d, r1, l1, t1, h1⟩ => by
    unfold M.tgt at h1
    cases e : g d ρ1 with
    | none => rw [e] at h1; exact False.elim h1
    | some ρ2 =>
      rw [e] at h1
      exact ⟨F1, ρ1, d, ρ2, r1, t1, e, fun σ' r' _ _ => h1 σ' F1 H1 r' (.refl _)⟩⟩
/-- x, y = a, b -/
def M.par (i j : Nat) (fs : M (List D)) : M Out := fs.bind fun ds ρ => match ds with
  | [d, e] => .ok .nx ((ρ.set i (.im d)).set j (.im e))
  | _ => .no
theorem ds_par {i j : Nat} {x y : Str} {px py pt : Pos} {kt k2 pt2} (hc : X.calm = true) (hN : X.N.Nodup) (hi : X.N[i]? = some x) (hj : X.N[j]? = some y) (hij : i ≠ j)
    (hx : X.env.scope.names.lookup x = some .local) (hy : X.env.scope.names.lookup y = some .local) (ha : DA X c [a, b] fs)
    (hw : swappedStores [.Tuple [.Name x px, .Name y py] kt pt] (.Tuple [a, b] k2 pt2) X.env = pure (some [x, y]))
    (hs : swapsWithSole [.Tuple [.Name x px, .Name y py] kt pt] (.Tuple [a, b] k2 pt2) pos.line X.env = pure false := by rfl) :
    DS X c (.Assign [.Tuple [.Name x px, .Name y py] kt pt] (.Tuple [a, b] k2 pt2) pos) (M.par i j fs) := PSw (ps_par hc hN hi hj hij hx hy ha hw hs) fun D σ H ⟨F, ρ, r, h⟩ =>
  ⟨F, ρ, r, (Sst.bindA (σ := σ) h).mono (.refl _) fun vs H1 ⟨F1, ρ1, ds, r1, l1, t1, h1⟩ => by
    cases t1 with
    | nil => exact False.elim h1
    | cons t tt =>
      cases tt with
      | nil => exact False.elim h1
      | cons u uu =>
        cases uu with
        | cons _ _ => exact False.elim h1
        | nil => exact ⟨_, _, rfl, h1 _ F1 H1 ((r1.setIm t).setIm u) (.refl _)⟩⟩

/-! ### for -/
def M.loop (g : Tg) (body : M Out) : List D → M Out
  | [] => M.nx
  | d :: ds => fun ρ => match g d ρ with
    | none => .no
    | some ρ1 => match body ρ1 with
      | .ok .nx ρ2 => M.loop g body ds ρ2
      | .ok .ct ρ2 => M.loop g body ds ρ2
      | .ok .bk ρ2 => .ok .nx ρ2
      | r => r
theorem PIt.toLoop {f : M (List D)} {k : List D → M Out} {E : Ends} {σ : L2.St} (h : Sst c F ((f.bind k) ρ) E) : PIt c σ F (f ρ) fun J H1 => ∃ F1 ρ1 ds, R c F1 H1 σ ρ1 ∧ Le F F1 ∧ ItD c F1 J ds ∧ Sst c F1 (k ds ρ1) E := by
  unfold M.bind at h
  cases e : f ρ with
  | ok ds ρ' => rw [e] at h; exact fun J F' H' r l i => ⟨F', ρ', ds, r, l, i, Sst.mono h l⟩
  | er k fs ρ' => rw [e] at h; exact fun C dd F' H' fv m r l e1 e2 e3 => h C dd σ F' H' fv m r l e1 e2 e3
  | no => rw [e] at h; exact h
theorem PIt.mono {r : Ret (List D)} {Q Q' : It → Hp → Prop} (h : PIt c σ F r Q) (q : ∀ v H, Q v H → Q' v H) : PIt c σ F r Q' := by
  cases r with
  | ok d ρ' => exact fun v F' H' a b e => q _ _ (h v F' H' a b e)
  | er k fs ρ' => exact h
  | no => exact h
theorem ds_for {iter tg : Expr} {body : List Stmt} {f : M (List D)} {ix : List Nat} {g : Tg} {gb : M Out} (hp : PassesOwn (model X.prog X.w) X.A X.env X.xe) (hc : X.calm = true) (hi : DI X c tg iter f) (hg : DG X c tg ix g) (hb : DSs X c body gb)
    (hs : ∀ x, foldedSetIterable iter X.env x = pure x := by intro _; rfl) : DS X c (.For tg iter body [] pos) (f.bind (M.loop g gb)) := PSw (ps_for hp hc hi hg hb hs) fun E σ H ⟨F, ρ, r, h⟩ =>
  ⟨F, ρ, r, (PIt.toLoop (σ := σ) h).mono fun J H1 ⟨F1, ρ1, ds, r1, l1, it, h1⟩ => by
    refine ⟨fun i m σ H => m = ds.length - i ∧ i ≤ ds.length ∧ ∃ F ρ, R c F H σ ρ ∧ Le F1 F ∧ Sst c F (M.loop g gb (ds.drop i) ρ) E, ⟨ds.length, by simp, Nat.zero_le _, F1, ρ1, r1, .refl _, h1⟩, ?_⟩
    rintro i m σ H ⟨rfl, hi, F2, ρ2, r2, l2, h2⟩
    by_cases z : i < ds.length
    · obtain ⟨hgo, hy⟩ := it.go i ds[i] F2 H l2 r2.sub (List.getElem?_eq_getElem z)
      refine .inr ⟨hgo, fun σ' H' => ∃ F ρ, R c F H' σ' ρ ∧ Le F1 F ∧ Sst c F (M.loop g gb (ds.drop (i + 1)) ρ) E, fun σ' H' p => ⟨ds.length - (i + 1), by omega, rfl, z, p⟩, fun x H' y => ?_⟩
      obtain ⟨F3, ex, dt⟩ := hy x H' y
      have l3 := ex.le r2.sub
      rw [List.drop_eq_getElem_cons z] at h2
      unfold M.loop at h2
      cases e1 : g ds[i] ρ2 with
      | none => rw [e1] at h2; exact False.elim h2
      | some ρ3 =>
        rw [e1] at h2
        dsimp only at h2
        refine ⟨F3, ρ2, ds[i], ρ3, r2.ext ex, dt, e1, fun σ' r' _ _ => ⟨F3, ρ3, r', ?_⟩⟩
        cases e2 : gb ρ3 with
        | ok o ρ4 =>
          rw [e2] at h2
          cases o with
          | nx => exact fun σ4 F4 H4 r4 l4 => ⟨F4, ρ4, r4, l2.trans (l3.trans l4), Sst.mono h2 (l3.trans l4)⟩
          | ct => exact fun σ4 F4 H4 r4 l4 => ⟨F4, ρ4, r4, l2.trans (l3.trans l4), Sst.mono h2 (l3.trans l4)⟩
          | bk => exact fun σ4 F4 H4 r4 l4 => h2 σ4 F4 H4 r4 (l3.trans l4)
          | rt d => exact fun σ4 v F4 H4 r4 l4 t4 => h2 σ4 v F4 H4 r4 (l3.trans l4) t4
        | er k fs ρ4 => rw [e2] at h2; exact fun C dd σ4 F4 H4 fv m r4 l4 a1 a2 a3 => h2 C dd σ4 F4 H4 fv m r4 (l3.trans l4) a1 a2 a3
        | no => rw [e2] at h2; exact False.elim h2
    · have e : i = ds.length := by omega
      subst e
      refine .inl ⟨it.stop _ F2 H l2 r2.sub (Nat.le_refl _), ?_⟩
      rw [List.drop_length] at h2
      exact h2 σ F2 H r2 (.refl _)⟩
end
end DL

set_option Elab.async false
set_option linter.all false
set_option maxRecDepth 100000
set_option maxHeartbeats 4000000
/-! DL6: list comprehensions over data. -/
namespace DL
open PySem PySem.Spec PyProof.Rows L2
section
variable {X : Cx} {c : Fc} {F H : Hp} {σ : L2.St} {ρ : Sls}
/-- the slots within a block: the block's own names and the def's own lists are not told -/
def wipeD : Sls → List Nat → Sls
  | ρ, [] => ρ
  | ρ, v :: vs => (wipeD ρ vs).set v .un
def noOw : Sl → Sl
  | .ow _ => .un
  | s => s
def inBlk (ρ : Sls) (vs : List Nat) : Sls := wipeD (ρ.map noOw) vs
/-- .. and behind it -/
def outSl : Sl → Sl → Sl
  | .bo _, .bo t => .bo t
  | .bo _, _ => .un
  | s, _ => s
def outBlk (ρ ρ' : Sls) : Sls := List.zipWith outSl ρ ρ'
theorem wipeD_len (ρ : Sls) : ∀ vs : List Nat, (wipeD ρ vs).length = ρ.length
  | [] => rfl
  | v :: vs => by unfold wipeD; rw [List.length_set, wipeD_len ρ vs]
theorem wipeD_out {ρ : Sls} {i : Nat} : ∀ {vs : List Nat}, i ∉ vs → (wipeD ρ vs)[i]? = ρ[i]?
  | [], _ => rfl
  | v :: vs, h => by
    unfold wipeD
    rw [List.getElem?_set_ne (fun z => h (by rw [z]; exact List.mem_cons_self)), wipeD_out fun z => h (List.mem_cons_of_mem _ z)]
theorem wipeD_in {ρ : Sls} {i : Nat} {s : Sl} : ∀ {vs : List Nat}, i ∈ vs → (wipeD ρ vs)[i]? = some s → s = .un
  | [], h, _ => by cases h
  | v :: vs, h, e => by
    unfold wipeD at e
    by_cases z : v = i
    · subst z
      have hl := (List.getElem?_eq_some_iff.mp e).1
      rw [List.length_set] at hl
      rw [List.getElem?_set_self hl] at e
      exact (Option.some.inj e).symm
    · rw [List.getElem?_set_ne z] at e
      rcases List.mem_cons.mp h with q | q
      · exact (z q.symm).elim
      · exact wipeD_in q e
theorem wipe_out' {σ : L2.St} {i : Nat} {vs : List Nat} (h : i ∉ vs) : (wipe σ vs)[i]? = σ[i]? := L2.wipe_out h
/-- a block's constants: all that stands at a turn is kept -/
def Fc.blk (c : Fc) (F H : Hp) : Fc := ⟨c.K, c.mg, c.T, H, F, c.B, fun _ _ _ _ => False⟩
theorem R.blk {vs : List Nat} (r : R c F H σ ρ) (h0 : 0 ∉ vs) : R (c.blk F H) F H (wipe σ vs) (inBlk ρ vs) where
  sub := r.sub
  ent := fun a o _ e _ => e
  tab := r.tab
  ft := r.ft
  dom := fun a e => e
  frz := fun a _ => rfl
  bor := fun p e => r.dom p (r.bor p e)
  len := by unfold inBlk; rw [wipe_length, wipeD_len, List.length_map]; exact r.len
  sl := fun i => by
    unfold inBlk
    by_cases z : i ∈ vs
    · cases e : (wipeD (ρ.map noOw) vs)[i]? with
      | none => exact True.intro
      | some s => rw [wipeD_in z e]; exact True.intro
    · rw [wipeD_out z, L2.wipe_out z, List.getElem?_map]
      have x := r.sl i
      revert x
      cases ρ[i]? with
      | none => exact fun _ => True.intro
      | some s =>
        cases s with
        | un => exact fun _ => True.intro
        | im d => exact fun x => x
        | ow d => exact fun _ => True.intro
        | bo d => exact fun x => x
  one := fun i d e => by
    unfold inBlk at e
    by_cases z : i ∈ vs
    · have := wipeD_in z e; cases this
    · rw [wipeD_out z, List.getElem?_map] at e
      cases hs : ρ[i]? with
      | none => rw [hs] at e; cases e
      | some s =>
        rw [hs] at e
        cases s with
        | bo t => exact r.one i t hs
        | un => cases e
        | im d => cases e
        | ow d => cases e
  own := fun i j p d d' e _ _ _ => by
    unfold inBlk at e
    by_cases z : i ∈ vs
    · have := wipeD_in z e; cases this
    · rw [wipeD_out z, List.getElem?_map] at e
      cases hs : ρ[i]? with
      | none => rw [hs] at e; cases e
      | some s =>
        rw [hs] at e
        cases s <;> cases e

theorem codeO_lst {c : Addr} {q : Str} {xs : List V} : LamX.CodeO c q ≠ .lst xs := fun z => by
  unfold LamX.CodeO at z
  cases z
/-- a list that grows beside the slots: it stands at A, nothing knows it -/
structure Side (c : Fc) (F H : Hp) (σ : L2.St) (ρ : Sls) (A : Addr) (acc : List D) : Prop where
  f : F A = none
  g : c.G A = none
  no : ∀ (i : Nat) (d : D), ρ[i]? = some (.ow d) → σ[i]? ≠ some (some (.ref A))
  at_ : ∃ xs, H A = some (.lst xs) ∧ c.Dts F xs acc
/-- behind a turn's block, the list one item longer or as it was -/
theorem R.unblk {vs : List Nat} {F4 H4 : Hp} {σ4 : L2.St} {ρ4 : Sls} {A : Addr} {acc : List D} {ws : List V} {ds : List D} (r : R c F H σ ρ) (S : Side c F H σ ρ A acc) (r4 : R (c.blk F H) F4 H4 σ4 ρ4) (hσ : ∀ j, j ∉ vs → σ4[j]? = σ[j]?) (h0 : 0 ∉ vs) (hl : σ4.length = σ.length) (t : c.Dts F4 ws ds) :
    Le F F4 ∧ (∃ xs, H4 A = some (.lst xs) ∧ c.Dts F4 xs acc) ∧ R c F4 (upd H4 A (.lst ws)) σ (outBlk ρ ρ4) ∧ Side c F4 (upd H4 A (.lst ws)) σ (outBlk ρ ρ4) A ds := by
  obtain ⟨xs, hA, tA⟩ := S.at_
  have keepF : ∀ a, H a ≠ none → F4 a = F a := fun a e => r4.frz a e
  have l : Le F F4 := fun a o e => by rw [keepF a (by rw [r.sub a o e]; exact fun z => by cases z)]; exact e
  have nB : c.B ≠ some A := fun z => r.bor A z S.g
  have fA : F4 A = none := by rw [keepF A (by rw [hA]; exact fun z => by cases z)]; exact S.f
  have hA4 : H4 A = some (.lst xs) := r4.ent A _ (noT_of r.tab hA fun ps z => by cases z) hA nB
  have hlen : ρ4.length = ρ.length := by rw [← r4.len, ← r.len]; exact hl
  have key : ∀ {i : Nat} {d : D}, (outBlk ρ ρ4)[i]? = some (.ow d) → ρ[i]? = some (.ow d) := fun {i d} e => by
    unfold outBlk at e
    rw [List.getElem?_zipWith] at e
    cases hs : ρ[i]? with
    | none => rw [hs] at e; cases e
    | some s =>
      rw [hs] at e
      cases hs4 : ρ4[i]? with
      | none => rw [hs4] at e; cases e
      | some s4 =>
        rw [hs4] at e
        cases s with
        | bo t => cases s4 <;> cases e
        | un => cases e
        | im _ => cases e
        | ow d => cases e; rfl
  refine ⟨l, ⟨xs, hA4, tA.le l⟩, ⟨fun a o e => ?_, fun a o nt e n => ?_, ?_, fun q hq => ?_, fun a e z => ?_, fun a e => ?_, r.bor, ?_, fun i => ?_, fun i d e => ?_, fun i j p d d' e1 e2 e3 e4 => ?_⟩, ⟨fA, S.g, fun i d e => S.no i d (key e), ws, upd_same, t⟩⟩
  · rw [upd_ne (fun z => by rw [z, fA] at e; cases e)]; exact r4.sub a o e
  · rw [upd_ne (fun z => by rw [z, S.g] at e; cases e)]; exact r4.ent a o nt (r.ent a o nt e n) n
  · intro q hq
    obtain ⟨ps, k1, k2, k3⟩ := r4.tab q hq
    have nA : q.1 ≠ A := fun z => by rw [z, hA4] at k1; cases k1
    refine ⟨ps, by rw [upd_ne nA]; exact k1, k2, fun pos cv hc => ?_⟩
    obtain ⟨c', e1, e2⟩ := k3 pos cv hc
    refine ⟨c', e1, ?_⟩
    rw [upd_ne (fun z => by rw [z, hA4] at e2; exact codeO_lst (Option.some.inj e2).symm)]; exact e2
  · exact r4.ft q hq
  · have na : a ≠ A := fun q => e (by rw [q]; exact S.g)
    rw [upd_ne na] at z
    exact r4.dom a (r.dom a e) z
  · rw [keepF a (r.dom a e)]; exact r.frz a e
  · unfold outBlk; rw [List.length_zipWith, hlen, Nat.min_self]; exact r.len
  · unfold outBlk
    rw [List.getElem?_zipWith]
    have x := r.sl i
    cases hs : ρ[i]? with
    | none => exact True.intro
    | some s =>
      rw [hs] at x
      cases hs4 : ρ4[i]? with
      | none => exact True.intro
      | some s4 =>
        cases s with
        | un => exact True.intro
        | im d => obtain ⟨v, e1, e2⟩ := x; exact ⟨v, e1, e2.le l⟩
        | ow d =>
          obtain ⟨p, e1, e2, e3, e4⟩ := x
          obtain ⟨o, eo⟩ := e4.there
          have np : p ≠ A := fun z => S.no i d hs (by rw [e1, z])
          have nb : c.B ≠ some p := fun z => r.bor p z e3
          refine ⟨p, e1, by rw [keepF p (by rw [eo]; exact fun z => by cases z)]; exact e2, e3, e4.le l fun u q => ?_⟩
          rw [upd_ne np]
          exact r4.ent p u (e4.noT r.tab) q nb
        | bo d =>
          cases s4 with
          | bo t4 =>
            obtain ⟨p, e1, e2, e3, e4⟩ := r4.sl i |> fun y => by rw [hs4] at y; exact y
            have i0 : i ∉ vs := by rw [r.one i d hs]; exact h0
            rw [hσ i i0] at e1
            have np : p ≠ A := fun z => nB (by rw [← z]; exact e3)
            exact ⟨p, e1, e2, e3, e4.le (.refl _) fun u q => by rw [upd_ne np]; exact q⟩
          | un => exact True.intro
          | im _ => exact True.intro
          | ow _ => exact True.intro
  · unfold outBlk at e
    rw [List.getElem?_zipWith] at e
    cases hs : ρ[i]? with
    | none => rw [hs] at e; cases e
    | some s =>
      rw [hs] at e
      cases hs4 : ρ4[i]? with
      | none => rw [hs4] at e; cases e
      | some s4 =>
        rw [hs4] at e
        cases s with
        | bo t => exact r.one i t hs
        | un => cases e
        | im _ => cases e
        | ow _ => cases e
  · exact r.own i j p d d' (key e1) (key e2) e3 e4
/-- what stands beside the slots becomes a datum -/
theorem Side.dt {A : Addr} {acc : List D} (r : R c F H σ ρ) (S : Side c F H σ ρ A acc) : ∃ F', Le F F' ∧ R c F' H σ ρ ∧ c.Dt F' (.ref A) (.lst acc) := by
  obtain ⟨xs, hA, tA⟩ := S.at_
  have l : Le F (upd F A (.lst xs)) := fun a u q => by rw [upd_ne (fun z => by rw [z, S.f] at q; cases q)]; exact q
  refine ⟨upd F A (.lst xs), l, ⟨fun a u q => ?_, r.ent, r.tab, fun q hq => ?_, r.dom, fun a q => ?_, r.bor, r.len, fun i => ?_, r.one, r.own⟩, .lst upd_same (tA.le l)⟩
  · by_cases z : a = A
    · subst z; rw [upd_same] at q; cases q; exact hA
    · rw [upd_ne z] at q; exact r.sub a u q
  · rw [upd_ne (noT_of r.tab hA (fun ps z => by cases z) q hq)]; exact r.ft q hq
  · rw [upd_ne (fun z => q (by rw [z]; exact S.g))]; exact r.frz a q
  · have x := r.sl i
    cases hs : ρ[i]? with
    | none => exact True.intro
    | some s =>
      rw [hs] at x
      cases s with
      | un => exact True.intro
      | im d => obtain ⟨v, e1, e2⟩ := x; exact ⟨v, e1, e2.le l⟩
      | ow d => obtain ⟨p, e1, e2, e3, e4⟩ := x; exact ⟨p, e1, by rw [upd_ne (fun z => S.no i d hs (by rw [e1, z]))]; exact e2, e3, e4.le l fun _ q => q⟩
      | bo d => obtain ⟨p, e1, e2, e3, e4⟩ := x; exact ⟨p, e1, by rw [upd_ne (fun z => r.bor p e3 (by rw [z]; exact S.g))]; exact e2, e3, e4.le l fun _ q => q⟩

/-- [elt for tg in .. if tt]: acc what is made so far -/
def M.compL (vs : List Nat) (g : Tg) (tt : M Bool) (fe : M D) : List D → List D → M (List D)
  | [], acc => M.ret acc
  | d :: ds, acc => fun ρ => match g d (inBlk ρ vs) with
    | none => .no
    | some ρ1 => match tt ρ1 with
      | .ok true ρ2 => match fe ρ2 with
        | .ok e ρ3 => if acc.length < 16777216 then M.compL vs g tt fe ds (acc ++ [e]) (outBlk ρ ρ3) else .no
        | _ => .no
      | .ok false ρ2 => M.compL vs g tt fe ds acc (outBlk ρ ρ2)
      | _ => .no
def M.comp (vs : List Nat) (g : Tg) (tt : M Bool) (fe : M D) (ds : List D) : M D := (M.compL vs g tt fe ds []).bind fun es => M.ret (.lst es)
theorem wipe_eq {σ σ2 : L2.St} {vs : List Nat} (h : ∀ j, j ∉ vs → σ2[j]? = (wipe σ vs)[j]?) (hl : σ2.length = (wipe σ vs).length) : wipe σ2 vs = wipe σ vs := by
  refine List.ext_getElem? fun i => ?_
  by_cases z : i ∈ vs
  · have key : ∀ τ : L2.St, ∀ us : List Nat, i ∈ us → (wipe τ us)[i]? = if i < τ.length then some none else none := fun τ us => by
      induction us with
      | nil => intro h; cases h
      | cons u us ih =>
        intro h
        unfold wipe
        by_cases q : u = i
        · subst q
          by_cases lt : u < τ.length
          · rw [List.getElem?_set_self (by rw [wipe_length]; exact lt), if_pos lt]
          · rw [List.getElem?_eq_none (by rw [List.length_set, wipe_length]; exact Nat.le_of_not_lt lt), if_neg lt]
        · rw [List.getElem?_set_ne q]
          rcases List.mem_cons.mp h with q' | q'
          · exact (q q'.symm).elim
          · exact ih q'
    rw [key σ2 vs z, key σ vs z, hl, wipe_length]
  · rw [L2.wipe_out z, h i z]

/-- the reading of a comprehension, from the iterator on -/
theorem comp_read {vs ix : List Nat} {g : Tg} {tt : M Bool} {fe : M D} {J : It} {ds : List D} {Q : VK} {F1 H1 : Hp} {ρ1 : Sls} {tg : TG} {tT : TT} {te : TE} (h0 : 0 ∉ vs) (hix : ∀ j ∈ ix, j ∈ vs)
    (htg : ∀ c' v σ H Q, c'.K = c.K → c'.mg = c.mg → c'.T = c.T → c'.W = (fun _ _ _ _ => False) → tTg c' ix g v σ H Q → tg v σ H Q) (htt : ∀ c' σ H Q, c'.K = c.K → c'.mg = c.mg → c'.T = c.T → c'.W = (fun _ _ _ _ => False) → tTe c' tt σ H Q → tT σ H Q)
    (hte : ∀ c' σ H Q, c'.K = c.K → c'.mg = c.mg → c'.T = c.T → c'.W = (fun _ _ _ _ => False) → tE c' fe σ H Q → te σ H Q)
    (r1 : R c F1 H1 σ ρ1) (it : ItD c F1 J ds) (h1 : Pst c σ F1 (M.comp vs g tt fe ds ρ1) Q) : ∀ A, H1 A = none → ∃ W : Nat → Nat → Hp → Prop, (∃ m, W 0 m (upd H1 A (.lst []))) ∧ ∀ i m H, W i m H →
      (J.stop i H ∧ Q (.ref A) H) ∨ (J.go i H ∧ ∃ Nx : Hp → Prop, (∀ H', Nx H' → ∃ m', m' < m ∧ W (i + 1) m' H') ∧ ∀ x H', J.yld i H x H' → tg x (wipe σ vs) H' fun σ2 H2 => wipe σ2 vs = wipe σ vs ∧ tT σ2 H2 fun b H3 =>
        if b = true then te σ2 H3 fun y H4 => ∃ acc, H4 A = some (.lst acc) ∧ acc.length < sizeLine ∧ Nx (upd H4 A (.lst (acc ++ [y]))) else Nx H3) := by
  intro A hA
  have h0' : Pst c σ F1 (((M.compL vs g tt fe (ds.drop 0) []).bind fun es => M.ret (.lst es)) ρ1) Q := h1
  refine ⟨fun i m H => m = ds.length - i ∧ i ≤ ds.length ∧ ∃ F ρ acc, R c F H σ ρ ∧ Le F1 F ∧ Side c F H σ ρ A acc ∧ Pst c σ F (((M.compL vs g tt fe (ds.drop i) acc).bind fun es => M.ret (.lst es)) ρ) Q, ⟨ds.length, by simp, Nat.zero_le _, F1, ρ1, [], ?_, .refl _, ?_, h0'⟩, ?_⟩
  · exact r1.ext (Ext.newO r1.sub hA)
  · exact ⟨r1.fnone hA, r1.gnone hA, r1.nu hA, [], upd_same, .nil⟩
  rintro i m H ⟨rfl, hi, F2, ρ2, acc, r2, l2, S, h2⟩
  by_cases z : i < ds.length
  · obtain ⟨hgo, hy⟩ := it.go i ds[i] F2 H l2 r2.sub (List.getElem?_eq_getElem z)
    refine .inr ⟨hgo, fun H' => ∃ F ρ acc, R c F H' σ ρ ∧ Le F1 F ∧ Side c F H' σ ρ A acc ∧ Pst c σ F (((M.compL vs g tt fe (ds.drop (i + 1)) acc).bind fun es => M.ret (.lst es)) ρ) Q, fun H' p => ⟨ds.length - (i + 1), by omega, rfl, z, p⟩, fun x H' y => ?_⟩
    obtain ⟨F3, ex, dt⟩ := hy x H' y
    have l3 := ex.le r2.sub
    have r3 := r2.ext ex
    have S3 : Side c F3 H' σ ρ2 A acc := by
      obtain ⟨xs, a1, a2⟩ := S.at_
      exact ⟨by rw [ex.old A (by rw [a1]; exact fun z => by cases z)]; exact S.f, S.g, S.no, xs, ex.h _ _ (noT_of r2.tab a1 fun ps z => by cases z) a1, a2.le l3⟩
    rw [List.drop_eq_getElem_cons z] at h2
    unfold M.bind M.compL at h2
    have rb : R (c.blk F3 H') F3 H' (wipe σ vs) (inBlk ρ2 vs) := r3.blk h0
    cases e1 : g ds[i] (inBlk ρ2 vs) with
    | none => rw [e1] at h2; exact False.elim h2
    | some ρ3 =>
      rw [e1] at h2
      dsimp only at h2
      refine htg (c.blk F3 H') _ _ _ _ rfl rfl rfl rfl ⟨F3, inBlk ρ2 vs, ds[i], ρ3, rb, dt, e1, fun σ2 r' k1 k2 => ?_⟩
      have kσ : ∀ j, j ∉ vs → σ2[j]? = (wipe σ vs)[j]? := fun j hj => k1 j fun q => hj (hix j q)
      refine ⟨wipe_eq kσ k2, htt (c.blk F3 H') _ _ _ rfl rfl rfl rfl ⟨F3, ρ3, r', ?_⟩⟩
      have kσ' : ∀ j, j ∉ vs → σ2[j]? = σ[j]? := fun j hj => by rw [kσ j hj, L2.wipe_out hj]
      have kl : σ2.length = σ.length := by rw [k2, wipe_length]
      cases e2 : tt ρ3 with
      | no => rw [e2] at h2; exact False.elim h2
      | er _ _ _ => rw [e2] at h2; exact False.elim h2
      | ok b ρ4 =>
        rw [e2] at h2
        intro F4 H4 r4 l4
        cases b with
        | false =>
          dsimp only at h2
          refine iteF ?_
          obtain ⟨xs, a1, a2⟩ := S3.at_
          have back := r3.unblk S3 r4 kσ' h0 kl (ws := xs) (ds := acc) (a2.le l4)
          obtain ⟨b1, ⟨xs', b2, b3⟩, b4, b5⟩ := back
          have nB : c.B ≠ some A := fun q => r2.bor A q S.g
          have e4 : H4 A = some (.lst xs) := r4.ent A _ (noT_of r3.tab a1 fun ps z => by cases z) a1 nB
          have e5 : upd H4 A (.lst xs) = H4 := by
            funext b
            by_cases q : b = A
            · rw [q, upd_same, e4]
            · rw [upd_ne q]
          rw [e5] at b4 b5
          exact ⟨F4, outBlk ρ2 ρ4, acc, b4, l2.trans (l3.trans l4), b5, Pst.mono h2 (l3.trans l4) fun _ _ q => q⟩
        | true =>
          dsimp only at h2
          refine iteT (hte (c.blk F3 H') _ _ _ rfl rfl rfl rfl ⟨F4, ρ4, r4, ?_⟩)
          cases e3 : fe ρ4 with
          | no => rw [e3] at h2; exact False.elim h2
          | er _ _ _ => rw [e3] at h2; exact False.elim h2
          | ok e ρ5 =>
            rw [e3] at h2
            dsimp only at h2
            intro v F5 H5 r5 l5 t5
            by_cases hz : acc.length < 16777216
            · rw [if_pos hz] at h2
              obtain ⟨xs, a1, a2⟩ := S3.at_
              obtain ⟨b1, ⟨xs', b2, b3⟩, _, _⟩ := r3.unblk S3 r5 kσ' h0 kl (ws := []) (ds := []) .nil
              obtain ⟨_, _, b4, b5⟩ := r3.unblk S3 r5 kσ' h0 kl (ws := xs' ++ [v]) (ds := acc ++ [e]) (b3.append (.cons t5 .nil))
              exact ⟨xs', b2, by rw [line_eq, b3.length]; exact hz, F5, outBlk ρ2 ρ5, acc ++ [e], b4, l2.trans (l3.trans (l4.trans l5)), b5, Pst.mono h2 (l3.trans (l4.trans l5)) fun _ _ q => q⟩
            · rw [if_neg hz] at h2; exact False.elim h2
  · have e : i = ds.length := by omega
    subst e
    refine .inl ⟨it.stop _ F2 H l2 r2.sub (Nat.le_refl _), ?_⟩
    rw [List.drop_length] at h2
    obtain ⟨F', l', r', t'⟩ := S.dt r2
    exact h2 (.ref A) F' H r' l' t'
end
end DL

set_option Elab.async false
set_option linter.all false
set_option maxRecDepth 100000
set_option maxHeartbeats 4000000
/-! DL7: the comprehension's rules; items, slices, built-ins. -/
namespace DL
open PySem PySem.Spec PyProof.Rows L2
section
variable {X : Cx} {c : Fc} {F H : Hp} {σ : L2.St} {ρ : Sls} {a b e : Expr} {fa fb fe : M D} {fs : M (List D)} {pos p : Pos}

/-! ### list comprehensions -/
/-- within a block -/
structure FitB (X : Cx) (c0 c : Fc) : Prop where
  k : X.K = c.K
  mg : X.mg = c.mg
  t : c.T = c0.T
  w : c.W = fun _ _ _ _ => False
theorem FitB.fit {X : Cx} {c0 c : Fc} (h : FitB X c0 c) (hx : X.xe = fun _ _ => False) : Fit X c := ⟨h.k, h.mg, by rw [h.w]; exact takes0, fun _ _ _ _ _ z => by rw [h.w] at z ⊢; exact z⟩
/-- the tests of a comprehension: none, or one -/
inductive DTs (X : Cx) (c : Fc) : List Expr → M Bool → Prop
  | nil : DTs X c [] (M.ret true)
  | one {e : Expr} {f : M Bool} (h : DT X c e f) : DTs X c [e] f
theorem DTs.pts {es : List Expr} {f : M Bool} (h : DTs X c es f) : PTs X es (tTe c f) := by
  cases h with
  | nil => exact ⟨fun pins s σ H Q I ⟨F, ρ, r, h⟩ => pts_nil.run pins s σ H Q I (h F H r (.refl _))⟩
  | one h => exact pts_one h
def xTg (c : Fc) (ix : List Nat) (g : Tg) : TG := fun v σ H Q => ∃ c' : Fc, c'.K = c.K ∧ c'.mg = c.mg ∧ c'.T = c.T ∧ c'.W = (fun _ _ _ _ => False) ∧ tTg c' ix g v σ H Q
def xTt (c : Fc) (tt : M Bool) : TT := fun σ H Q => ∃ c' : Fc, c'.K = c.K ∧ c'.mg = c.mg ∧ c'.T = c.T ∧ c'.W = (fun _ _ _ _ => False) ∧ tTe c' tt σ H Q
def xTe (c : Fc) (fe : M D) : TE := fun σ H Q => ∃ c' : Fc, c'.K = c.K ∧ c'.mg = c.mg ∧ c'.T = c.T ∧ c'.W = (fun _ _ _ _ => False) ∧ tE c' fe σ H Q
theorem de_comp {tg iter elt : Expr} {ifs : List Expr} {scope : Scope} {own : List (Str × Nat)} {fi : M (List D)} {ix : List Nat} {g : Tg} {tt : M Bool} (fx : Fit X c) (hc : X.calm = true) (hN : X.N.Nodup) (hi : DI X c tg iter fi) (ok : BlkOk X.N X.env.scope scope own)
    (h0 : 0 ∉ own.map (·.2)) (hix : ∀ j ∈ ix, j ∈ own.map (·.2))
    (hg : ∀ (s : Shared) (H : Hp) (C : Addr) (cl : List (Str × Addr)) (fp : List Addr) (c' : Fc), FitB (X.blk s H scope (compEnvC scope cl C X.env) fp) c c' → DG (X.blk s H scope (compEnvC scope cl C X.env) fp) c' tg ix g)
    (ht : ∀ (s : Shared) (H : Hp) (C : Addr) (cl : List (Str × Addr)) (fp : List Addr) (c' : Fc), FitB (X.blk s H scope (compEnvC scope cl C X.env) fp) c c' → DTs (X.blk s H scope (compEnvC scope cl C X.env) fp) c' ifs tt)
    (he : ∀ (s : Shared) (H : Hp) (C : Addr) (cl : List (Str × Addr)) (fp : List Addr) (c' : Fc), FitB (X.blk s H scope (compEnvC scope cl C X.env) fp) c c' → DE (X.blk s H scope (compEnvC scope cl C X.env) fp) c' elt fe) (hs : ∀ x, foldedSetIterable iter X.env x = pure x := by intro _; rfl) :
    DE X c (.ListComp elt [⟨tg, iter, ifs, 0⟩] scope pos) (fi.bind (M.comp (own.map (·.2)) g tt fe)) := by
  have fb : ∀ (s : Shared) (H : Hp) (C : Addr) (cl : List (Str × Addr)) (fp : List Addr) (c' : Fc), c'.K = c.K → c'.mg = c.mg → c'.T = c.T → c'.W = (fun _ _ _ _ => False) → FitB (X.blk s H scope (compEnvC scope cl C X.env) fp) c c' := fun s H C cl fp c' h1 h2 h4 h3 => ⟨fx.k.trans h1.symm, fx.mg.trans h2.symm, h4, h3⟩
  refine PEw (pe_lc (g := xTg c ix g) (tt := xTt c tt) (te := xTe c fe) hc hN hi ok
    (fun s H C cl fp => ⟨fun pins s' σ H v u Q I r ⟨c', h1, h2, h4, h3, q⟩ => (hg s _ C cl fp c' (fb _ _ _ _ _ _ h1 h2 h4 h3)).run pins s' σ H v u Q I r q⟩)
    (fun s H C cl fp => ⟨fun pins s' σ H Q I ⟨c', h1, h2, h4, h3, q⟩ => (ht s _ C cl fp c' (fb _ _ _ _ _ _ h1 h2 h4 h3)).pts.run pins s' σ H Q I q⟩)
    (fun s H C cl fp => ⟨fun pins s' σ H Q I ⟨c', h1, h2, h4, h3, q⟩ => (he s _ C cl fp c' (fb _ _ _ _ _ _ h1 h2 h4 h3)).run pins s' σ H Q I q⟩) hs) fun σ H Q ⟨F, ρ, rr, h⟩ => ?_
  have h' : PIt c σ F (fi ρ) fun J H1 => ∃ F1 ρ1 ds, R c F1 H1 σ ρ1 ∧ Le F F1 ∧ ItD c F1 J ds ∧ Pst c σ F1 (M.comp (own.map (·.2)) g tt fe ds ρ1) Q := by
    unfold M.bind at h
    cases e : fi ρ with
    | ok ds ρ' => rw [e] at h; exact fun J F' H' r l i => ⟨F', ρ', ds, r, l, i, Pst.mono h l fun _ _ q => q⟩
    | er k fs ρ' => rw [e] at h; exact h
    | no => rw [e] at h; exact h
  exact ⟨F, ρ, rr, h'.mono fun J H1 ⟨F1, ρ1, ds, r1, l1, it, h1⟩ => comp_read (tg := xTg c ix g) (tT := xTt c tt) (te := xTe c fe) h0 hix (fun c' v σ H Q a b k d q => ⟨c', a, b, k, d, q⟩) (fun c' σ H Q a b k d q => ⟨c', a, b, k, d, q⟩) (fun c' σ H Q a b k d q => ⟨c', a, b, k, d, q⟩) r1 it h1⟩
/-- name = [..] on one line -/
theorem ds_comp {i : Nat} {y : Str} {py spos : Pos} {tg iter elt : Expr} {ifs : List Expr} {scope : Scope} {own : List (Str × Nat)} {fi : M (List D)} {ix : List Nat} {g : Tg} {tt : M Bool} (fx : Fit X c) (hc : X.calm = true) (hN : X.N.Nodup)
    (hy : X.N[i]? = some y) (hyl : X.env.scope.names.lookup y = some .local) (hsw : swapsWith (.ListComp elt [⟨tg, iter, ifs, 0⟩] scope pos) (some (.Name y py)) spos.line X.env = pure true) (hi : DI X c tg iter fi) (ok : BlkOk X.N X.env.scope scope own)
    (h0 : 0 ∉ own.map (·.2)) (hix : ∀ j ∈ ix, j ∈ own.map (·.2))
    (hg : ∀ (s : Shared) (H : Hp) (C : Addr) (cl : List (Str × Addr)) (fp : List Addr) (c' : Fc), FitB (X.blk s H scope (compEnvC scope cl C X.env) fp) c c' → DG (X.blk s H scope (compEnvC scope cl C X.env) fp) c' tg ix g)
    (ht : ∀ (s : Shared) (H : Hp) (C : Addr) (cl : List (Str × Addr)) (fp : List Addr) (c' : Fc), FitB (X.blk s H scope (compEnvC scope cl C X.env) fp) c c' → DTs (X.blk s H scope (compEnvC scope cl C X.env) fp) c' ifs tt)
    (he : ∀ (s : Shared) (H : Hp) (C : Addr) (cl : List (Str × Addr)) (fp : List Addr) (c' : Fc), FitB (X.blk s H scope (compEnvC scope cl C X.env) fp) c c' → DE (X.blk s H scope (compEnvC scope cl C X.env) fp) c' elt fe) (hs : ∀ x, foldedSetIterable iter X.env x = pure x := by intro _; rfl) :
    DS X c (.Assign [.Name y py] (.ListComp elt [⟨tg, iter, ifs, 0⟩] scope pos) spos) ((fi.bind (M.comp (own.map (·.2)) g tt fe)).bind fun d ρ => .ok .nx (ρ.set i (.im d))) := by
  have fb : ∀ (s : Shared) (H : Hp) (C : Addr) (cl : List (Str × Addr)) (fp : List Addr) (c' : Fc), c'.K = c.K → c'.mg = c.mg → c'.T = c.T → c'.W = (fun _ _ _ _ => False) → FitB (X.blk s H scope (compEnvC scope cl C X.env) fp) c c' := fun s H C cl fp c' h1 h2 h4 h3 => ⟨fx.k.trans h1.symm, fx.mg.trans h2.symm, h4, h3⟩
  refine PSw (ps_setLc (g := xTg c ix g) (tt := xTt c tt) (te := xTe c fe) hc hN hy hyl hsw hi ok
    (fun s H C cl fp => ⟨fun pins s' σ H v u Q I r ⟨c', h1, h2, h4, h3, q⟩ => (hg s _ C cl fp c' (fb _ _ _ _ _ _ h1 h2 h4 h3)).run pins s' σ H v u Q I r q⟩)
    (fun s H C cl fp => ⟨fun pins s' σ H Q I ⟨c', h1, h2, h4, h3, q⟩ => (ht s _ C cl fp c' (fb _ _ _ _ _ _ h1 h2 h4 h3)).pts.run pins s' σ H Q I q⟩)
    (fun s H C cl fp => ⟨fun pins s' σ H Q I ⟨c', h1, h2, h4, h3, q⟩ => (he s _ C cl fp c' (fb _ _ _ _ _ _ h1 h2 h4 h3)).run pins s' σ H Q I q⟩) hs) fun E σ H ⟨F, ρ, rr, h⟩ => ?_
  have h1 := Sst.bind (σ := σ) h
  have h' : PIt c σ F (fi ρ) fun J H1 => ∃ F1 ρ1 ds, R c F1 H1 σ ρ1 ∧ Le F F1 ∧ ItD c F1 J ds ∧ Pst c σ F1 (M.comp (own.map (·.2)) g tt fe ds ρ1) fun v H1 => ∃ F1 ρ1 d, R c F1 H1 σ ρ1 ∧ Le F F1 ∧ c.Dt F1 v d ∧ Sst c F1 (.ok .nx (ρ1.set i (.im d))) E := by
    unfold M.bind at h1
    cases e : fi ρ with
    | ok ds ρ' => rw [e] at h1; exact fun J F' H' r l it => ⟨F', ρ', ds, r, l, it, Pst.mono h1 l fun _ _ q => q⟩
    | er k fs ρ' => rw [e] at h1; exact h1
    | no => rw [e] at h1; exact h1
  refine ⟨F, ρ, rr, h'.mono fun J H1 ⟨F1, ρ1, ds, r1, l1, it, h1⟩ => comp_read (tg := xTg c ix g) (tT := xTt c tt) (te := xTe c fe) h0 hix (fun c' v σ H Q a b k d q => ⟨c', a, b, k, d, q⟩) (fun c' σ H Q a b k d q => ⟨c', a, b, k, d, q⟩) (fun c' σ H Q a b k d q => ⟨c', a, b, k, d, q⟩) r1 it (Pst.mono (Q' := fun x H1 => gName i x σ H1 E.nx) h1 (.refl _) ?_)⟩
  exact fun v H1 ⟨F1, ρ1, d, r1, l1, t1, h2⟩ => h2 _ F1 H1 (r1.setIm t1) (.refl _)

/-! ### items -/
def lineS (z : Str) : Bool := decide (z.length ≤ 16777216)
theorem lineS_of {z : Str} (h : lineS z = true) : z.length ≤ sizeLine := by rw [line_eq]; exact of_decide_eq_true h
def gIx : D → D → M D
  | .lst ds, .int i => M.of (atI ds i)
  | .rol ds, .int i => M.of (atI ds i)
  | .tup ds, .int i => M.of (atI ds i)
  | .str z, .int i => M.grd (lineS z) (M.of ((atI z.cps.toList i).map fun n => .str ⟨#[n]⟩))
  | _, _ => M.no
theorem Dts.atI {K : PySem.W.Frag} {mg : Str → Option Value} {vs : List V} {ds : List D} {i : Int} {d : D} (t : Dts K mg F vs ds) (h : L2.atI ds i = some d) : ∃ v, L2.atI vs i = some v ∧ Dt K mg F v d := by
  unfold L2.atI at h ⊢
  rw [t.length]
  cases e : ixN ds.length i with
  | none => rw [e] at h; cases h
  | some j => rw [e] at h; exact t.get h
theorem Pst.of {o : Option D} {Q : VK} (h : Pst c σ F (M.of o ρ) Q) : ∃ d, o = some d ∧ Pst c σ F (M.ret d ρ) Q := by
  cases o with
  | none => exact False.elim h
  | some d => exact ⟨d, rfl, h⟩
theorem opd_ix (fx : Fit X c) : OpD c (rIx X.K) gIx := by
  intro F H σ ρ x y d e Q r tx ty h
  rw [fx.k]
  cases ty with
  | int i =>
    cases tx with
    | @lst a xs ds e1 t1 =>
      obtain ⟨w, e, h⟩ := Pst.of (o := atI ds i) h
      obtain ⟨v, ev, dv⟩ := t1.atI e
      exact .inl ⟨a, xs, i, v, rfl, rfl, r.sub.sqL e1, ev, h.ret r dv⟩
    | @rol a xs ds e1 t1 =>
      obtain ⟨w, e, h⟩ := Pst.of (o := atI ds i) h
      obtain ⟨v, ev, dv⟩ := t1.atI e
      exact .inl ⟨a, xs, i, v, rfl, rfl, SqL.le r.sub e1, ev, h.ret r dv⟩
    | @tup a xs ds e1 t1 =>
      obtain ⟨w, e, h⟩ := Pst.of (o := atI ds i) h
      obtain ⟨v, ev, dv⟩ := t1.atI e
      exact .inr (.inl ⟨a, xs, i, v, rfl, rfl, SqT.le r.sub e1, ev, h.ret r dv⟩)
    | str z =>
      obtain ⟨q, h⟩ := Pst.grdB (p := lineS z) h
      obtain ⟨w, e, h⟩ := Pst.of (o := (atI z.cps.toList i).map fun n => D.str ⟨#[n]⟩) h
      obtain ⟨n, en, ew⟩ := Option.map_eq_some_iff.mp e
      subst ew
      exact .inr (.inr ⟨z, i, n, rfl, rfl, lineS_of q, en, h.ret r (.str _)⟩)
    | _ => exact False.elim h
  | _ => exact False.elim (by cases tx <;> exact h)
theorem two_ix {r : R2} {g : D → D → M D} {Q : VK} (hg : OpD c r g) (rr : R c F H σ ρ) (h : Pst c σ F (M.two fa fb g ρ) Q) : tOp r (tE c fa) (tE c fb) σ H Q := two_tOp hg rr h
theorem de_ix (fx : Fit X c) (ha : DE X c a fa) (hb : DE X c b fb) (hs : PlainIx b := by exact fun _ _ => rfl) : DE X c (.Subscript a b pos) (M.two fa fb gIx) := PEw (pe_ix ix_seq ha hb hs) fun σ H Q ⟨F, ρ, rr, h⟩ => two_tOp (opd_ix fx) rr h
/-- d[k], a dict with int and text keys -/
def D.key : D → Option Key
  | .int i => some (.inl i)
  | .str x => some (.inr x)
  | _ => none
def valD (kvs : List (Key × D)) (k : Key) : Option D := (kvs.find? fun kv => decide (kv.1 = k)).map (·.2)
theorem val_of {K : PySem.W.Frag} {mg : Str → Option Value} {k : Key} : ∀ {kvs : List (Key × V)} {kds : List (Key × D)}, kvs.map (·.1) = kds.map (·.1) → Dts K mg F (kvs.map (·.2)) (kds.map (·.2)) → (∀ d, valD kds k = some d → ∃ v, valV kvs k = some v ∧ Dt K mg F v d) ∧ (valD kds k = none → valV kvs k = none)
  | [], [], _, _ => ⟨fun d h => (by cases h), fun _ => rfl⟩
  | [], _ :: _, e, _ => by cases e
  | _ :: _, [], e, _ => by cases e
  | (k1, v1) :: kvs, (k2, d2) :: kds, e, t => by
    simp only [List.map_cons, List.cons.injEq] at e
    obtain ⟨e1, e2⟩ := e
    cases t with
    | cons t1 t2 =>
      obtain ⟨h1, h2⟩ := val_of (k := k) e2 t2
      subst e1
      by_cases z : k1 = k
      · refine ⟨fun d h => ⟨v1, valV_pos z, ?_⟩, fun h => ?_⟩
        · have : valD ((k1, d2) :: kds) k = some d2 := by simp [valD, List.find?_cons, z]
          rw [this] at h; cases h; exact t1
        · have : valD ((k1, d2) :: kds) k = some d2 := by simp [valD, List.find?_cons, z]
          rw [this] at h; cases h
      · have e3 : valD ((k1, d2) :: kds) k = valD kds k := by simp [valD, List.find?_cons, z]
        rw [e3]
        exact ⟨fun d h => by rw [valV_neg (p := (k1, v1)) z]; exact h1 d h, fun h => by rw [valV_neg (p := (k1, v1)) z]; exact h2 h⟩
theorem Dt.key {K : PySem.W.Frag} {mg : Str → Option Value} {v : V} {d : D} {k : Key} (t : Dt K mg F v d) (e : d.key = some k) : v = kV k := by
  cases t <;> simp only [D.key, Option.some.injEq, reduceCtorEq] at e <;> subst e <;> rfl
def gDx (d k : D) : M D := match d, k.key with
  | .dct kvs, some k => M.of (valD kvs k)
  | _, _ => M.no
theorem de_dx {n : Nat} (hr : Room n X.A) (ha : DE X c a fa) (hb : DE X c b fb) (hs : NoSl b := by exact fun _ _ => rfl) : DE X c (.Subscript a b pos) (M.two fa fb gDx) :=
  PEw (pe_dget (hu_of hr) ha hb hs) fun σ H Q ⟨F, ρ, rr, h⟩ => ⟨F, ρ, rr, (Pst.bind h).mono (.refl _) fun x H1 ⟨F1, ρ1, d, r1, l1, t1, h1⟩ => ⟨F1, ρ1, r1, (Pst.bind h1).mono (.refl _) fun y H2 ⟨F2, ρ2, e, r2, l2, t2, h2⟩ => by
    have t1 := t1.le l2
    cases ek : e.key with
    | none => unfold gDx at h2; rw [ek] at h2; exact False.elim (by cases t1 <;> exact h2)
    | some k =>
      unfold gDx at h2
      rw [ek] at h2
      cases t1 with
      | @dct a od kvs kds e1 k1 tt =>
        obtain ⟨w, ew, h2⟩ := Pst.of (o := valD kds k) h2
        obtain ⟨v, ev, dv⟩ := (val_of k1 tt).1 w ew
        have ey := t2.key ek
        subst ey
        exact ⟨a, v, rfl, by rw [← ev]; exact .inl ⟨kvs, k, .inr ⟨od, r2.sub _ _ e1⟩, rfl, rfl⟩, h2.ret r2 dv⟩
      | _ => exact False.elim h2⟩⟩

/-! ### slices -/
def DO (X : Cx) (c : Fc) (e : Option Expr) (f : M (Option Int)) : Prop := PO X e fun σ H Q => ∃ F ρ, R c F H σ ρ ∧ match f ρ with
  | .ok o ρ' => ∀ F' H', R c F' H' σ ρ' → Le F F' → Q o H'
  | .er k fs ρ' => ∀ C dd F' H' fv, c.mg k = some (.ref C) → R c F' H' σ ρ' → Le F F' → F' dd = some (.xd fv) → fv.map (·.1) = fs.map (·.1) → c.Dts F' (fv.map (·.2)) (fs.map (·.2)) → c.W (.ref C) (some dd) σ H'
  | .no => False
theorem do_none : DO X c none (M.ret none) := ⟨fun pins s σ H Q I ⟨F, ρ, r, h⟩ => po_none.run pins s σ H Q I (h F H r (.refl _))⟩
def M.asI (f : M D) : M (Option Int) := f.bind fun d => match d with
  | .int i => M.ret (some i)
  | _ => M.no
theorem do_some (h : DE X c a fa) : DO X c (some a) fa.asI := ⟨fun pins s σ H Q I ⟨F, ρ, r, q⟩ => (po_some h).run pins s σ H Q I ⟨F, ρ, r, by
  unfold M.asI M.bind at q
  cases e : fa ρ with
  | no => rw [e] at q; exact q
  | er k fs ρ' => rw [e] at q; exact q
  | ok d ρ' =>
    rw [e] at q
    intro v F' H' r' l t
    cases t with
    | int i => exact ⟨i, rfl, q F' H' r' l⟩
    | _ => exact False.elim q⟩⟩
def cutD (ds : List D) (lo hi : Option Int) : List D := (ds.drop (HT.sIx ds.length 0 lo)).take (HT.sIx ds.length ds.length hi - HT.sIx ds.length 0 lo)
theorem Dts.cut {K : PySem.W.Frag} {mg : Str → Option Value} {vs : List V} {ds : List D} {lo hi : Option Int} (t : Dts K mg F vs ds) : Dts K mg F (cutV vs lo hi) (cutD ds lo hi) := by
  unfold cutV cutD
  rw [t.length]
  exact (t.drop _).take _
def gSl (d : D) (lo hi : Option Int) : M D := match d with
  | .lst ds => M.ret (.lst (cutD ds lo hi))
  | .rol ds => M.ret (.lst (cutD ds lo hi))
  | .tup ds => M.ret (.tup (cutD ds lo hi))
  | .str z => M.grd (lineS z) (M.ret (.str (cutS z lo hi)))
  | _ => M.no
def M.sl (fa : M D) (fl fh : M (Option Int)) : M D := fa.bind fun d => fl.bind fun l => fh.bind fun h => gSl d l h
theorem DO.run' {eo : Option Expr} {f : M (Option Int)} (h : DO X c eo f) {k : Option Int → M D} {Q : VK} (rr : R c F H σ ρ) (q : Pst c σ F ((f.bind k) ρ) Q) : ∃ F0 ρ0, R c F0 H σ ρ0 ∧ match f ρ0 with
  | .ok o ρ' => ∀ F' H', R c F' H' σ ρ' → Le F0 F' → ∃ F1 ρ1, R c F1 H' σ ρ1 ∧ Le F F1 ∧ Pst c σ F1 (k o ρ1) Q
  | .er k fs ρ' => ∀ C dd F' H' fv, c.mg k = some (.ref C) → R c F' H' σ ρ' → Le F0 F' → F' dd = some (.xd fv) → fv.map (·.1) = fs.map (·.1) → c.Dts F' (fv.map (·.2)) (fs.map (·.2)) → c.W (.ref C) (some dd) σ H'
  | .no => False := by
  refine ⟨F, ρ, rr, ?_⟩
  unfold M.bind at q
  cases e : f ρ with
  | ok o ρ' => rw [e] at q; exact fun F' H' r l => ⟨F', ρ', r, l, Pst.mono q l fun _ _ z => z⟩
  | er k fs ρ' => rw [e] at q; exact q
  | no => rw [e] at q; exact q
theorem de_sl {lo hi : Option Expr} {fl fh : M (Option Int)} {p2 : Pos} (fx : Fit X c) (ha : DE X c a fa) (hl : DO X c lo fl) (hh : DO X c hi fh) : DE X c (.Subscript a (.Slice lo hi none p2) pos) (M.sl fa fl fh) :=
  PEw (pe_slice (sl_list.or (sl_tupA.or sl_str)) ha hl hh) fun σ H Q ⟨F, ρ, rr, h⟩ => ⟨F, ρ, rr, (Pst.bind h).mono (.refl _) fun x H1 ⟨F1, ρ1, d, r1, l1, t1, h1⟩ => by
    obtain ⟨F0, ρ0, r0, q⟩ := hl.run' r1 h1
    refine ⟨F1, ρ1, r1, ?_⟩
    unfold M.bind at h1
    cases e : fl ρ1 with
    | no => rw [e] at h1; exact h1
    | er k fs ρ' => rw [e] at h1; exact h1
    | ok l ρ2 =>
      rw [e] at h1
      intro F2 H2 r2 l2
      dsimp only at h1
      refine ⟨F2, ρ2, r2, ?_⟩
      cases e2 : fh ρ2 with
      | no => rw [e2] at h1; exact h1
      | er k fs ρ' => rw [e2] at h1; exact fun C dd F' H' fv m r lx => h1 C dd F' H' fv m r (l2.trans lx)
      | ok u ρ3 =>
        rw [e2] at h1
        intro F3 H3 r3 l3
        dsimp only at h1
        have h1 : Pst c σ F3 (gSl d l u ρ3) Q := Pst.mono h1 (l2.trans l3) fun _ _ z => z
        rw [fx.k]
        have t := t1.le (l2.trans l3)
        cases t with
        | @lst a xs ds e1 tt => exact .inl ⟨a, xs, rfl, r3.sub.sqL e1, fun p hp => h1.newLst r3 tt.cut hp⟩
        | @rol a xs ds e1 tt => exact .inl ⟨a, xs, rfl, SqL.le r3.sub e1, fun p hp => h1.newLst r3 tt.cut hp⟩
        | @tup a xs ds e1 tt =>
          refine .inr (.inl ⟨a, xs, rfl, SqT.le r3.sub e1, fun z => ?_, fun _ p hp => h1.newTup r3 tt.cut hp⟩)
          have e3 : cutD ds l u = ds := by
            unfold cutD
            rw [tt.length] at z
            rw [z.1, z.2, List.drop_zero, Nat.sub_zero, List.take_length]
          have h1 : Pst c σ F3 (M.ret (.tup (cutD ds l u)) ρ3) Q := h1
          rw [e3] at h1
          exact h1.ret r3 (.tup e1 tt)
        | str z =>
          obtain ⟨q, h1⟩ := Pst.grdB (p := lineS z) h1
          exact .inr (.inr ⟨z, rfl, lineS_of q, h1.ret r3 (.str _)⟩)
        | _ => exact False.elim h1⟩
end
end DL

set_option Elab.async false
set_option linter.all false
set_option maxRecDepth 100000
set_option maxHeartbeats 4000000
/-! DL8: built-ins called, methods of built-in types, isinstance, f-strings. -/
namespace DL
open PySem PySem.Spec PyProof.Rows L2
section
variable {X : Cx} {c : Fc} {F H : Hp} {σ : L2.St} {ρ : Sls} {a b e : Expr} {fa fb fe : M D} {es : List Expr} {fs : M (List D)} {pos p : Pos}

/-! ### len, int, abs, bool, str, max, min, tuple, list, all, sorted -/
def gLen : List D → M D
  | [.lst ds] | [.rol ds] | [.tup ds] => M.ret (.int ds.length)
  | [.str z] => M.grd (lineS z) (M.ret (.int z.length))
  | _ => M.no
/-- one argument -/
theorem one_of {K : PySem.W.Frag} {mg : Str → Option Value} {xs : List V} {ds : List D} (t : Dts K mg F xs ds) : (∃ v d, xs = [v] ∧ ds = [d] ∧ Dt K mg F v d) ∨ ds = [] ∨ ∃ d e r, ds = d :: e :: r := by
  cases t with
  | nil => exact .inr (.inl rfl)
  | cons t tt =>
    cases tt with
    | nil => exact .inl ⟨_, _, rfl, rfl, t⟩
    | cons _ _ => exact .inr (.inr ⟨_, _, _, rfl⟩)
def g1 (g : D → M D) : List D → M D
  | [d] => g d
  | _ => M.no
theorem call1 {r : List V → Hp → VK → Prop} {g : D → M D} (h : ∀ (F H : Hp) (σ : L2.St) (ρ : Sls) (x : V) (d : D) (Q : VK), R c F H σ ρ → c.Dt F x d → Pst c σ F (g d ρ) Q → r [x] H Q) : CallD c r (g1 g) := by
  intro F H σ ρ xs ds Q rr t q
  rcases one_of t with ⟨v, d, rfl, rfl, t1⟩ | rfl | ⟨_, _, _, rfl⟩
  · exact h F H σ ρ v d Q rr t1 q
  · exact False.elim q
  · exact False.elim q
def lenD : D → M D
  | .lst ds | .rol ds | .tup ds => M.ret (.int ds.length)
  | .str z => M.grd (lineS z) (M.ret (.int z.length))
  | _ => M.no
theorem de_len (fx : Fit X c) (hg : Gl X "len") (hm : X.mg "len" = none) (ha : DA X c [a] fs) (he : starEach [a] X.env = (false, eval a X.env) :: starEach [] X.env := by rfl) (hpl : (backTo pos (starEach [] X.env)).any (·.1) = false := by rfl) :
    DE X c (.Call (.Name "len" p) [a] [] pos) (fs.bind (g1 lenD)) :=
  de_callB (call_len_seq.or call_len_str) (call1 fun F H σ ρ x d Q rr t q => by
    rw [fx.k]
    cases t with
    | @lst a xs ds e t => exact .inl ⟨a, xs, rfl, .inl (rr.sub.sqL e), by rw [t.length]; exact q.ret rr (.int _)⟩
    | @rol a xs ds e t => exact .inl ⟨a, xs, rfl, .inl (SqL.le rr.sub e), by rw [t.length]; exact q.ret rr (.int _)⟩
    | @tup a xs ds e t => exact .inl ⟨a, xs, rfl, .inr (SqT.le rr.sub e), by rw [t.length]; exact q.ret rr (.int _)⟩
    | str z =>
      obtain ⟨z1, q⟩ := Pst.grdB (p := lineS z) q
      exact .inr ⟨z, rfl, lineS_of z1, q.ret rr (.int _)⟩
    | _ => exact False.elim q) hg hm PySem.boot_len ha (by decide) (by decide) he hpl
def intD : D → M D
  | .int i => M.ret (.int i)
  | .bl b => M.ret (.int (if b then 1 else 0))
  | .str z => match PySem.intText? z with
    | some n => M.grd (decide (z.length ≤ 640)) (M.ret (.int n))
    | none => M.no
  | _ => M.no
theorem de_intc (hg : Gl X "int") (hm : X.mg "int" = none) (ha : DA X c [a] fs) (he : starEach [a] X.env = (false, eval a X.env) :: starEach [] X.env := by rfl) (hpl : (backTo pos (starEach [] X.env)).any (·.1) = false := by rfl) :
    DE X c (.Call (.Name "int" p) [a] [] pos) (fs.bind (g1 intD)) :=
  de_callTy (call_int1.or call_int_str) (call1 fun F H σ ρ x d Q rr t q => by
    cases t with
    | int i => exact .inl (.inl ⟨i, rfl, q.ret rr (.int _)⟩)
    | bl k => exact .inl (.inr ⟨k, rfl, q.ret rr (.int _)⟩)
    | str z =>
      have q : Pst c σ F ((match PySem.intText? z with | some n => M.grd (decide (z.length ≤ 640)) (M.ret (.int n)) | none => M.no : M D) ρ) Q := q
      cases e : PySem.intText? z with
      | none => rw [e] at q; exact False.elim q
      | some n =>
        rw [e] at q
        obtain ⟨z1, q⟩ := Pst.grd (b := z.length ≤ 640) q
        exact .inr ⟨z, n, rfl, e, z1, q.ret rr (.int _)⟩
    | _ => exact False.elim q) hg hm boot_int ha (by decide) (by decide) he hpl
def absD : D → M D
  | .int i => M.ret (.int (if i < 0 then -i else i))
  | _ => M.no
theorem de_abs (hg : Gl X "abs") (hm : X.mg "abs" = none) (ha : DA X c [a] fs) (he : starEach [a] X.env = (false, eval a X.env) :: starEach [] X.env := by rfl) (hpl : (backTo pos (starEach [] X.env)).any (·.1) = false := by rfl) :
    DE X c (.Call (.Name "abs" p) [a] [] pos) (fs.bind (g1 absD)) :=
  de_callB call_abs (call1 fun F H σ ρ x d Q rr t q => by
    cases t with
    | int i => exact ⟨i, rfl, q.ret rr (.int _)⟩
    | _ => exact False.elim q) hg hm (by decide +kernel) ha (by decide) (by decide) he hpl
def strD : D → M D
  | .int i => M.grd (decide (i.natAbs.log2 < 1920)) (M.ret (.str (toString i)))
  | _ => M.no
theorem de_strc (hg : Gl X "str") (hm : X.mg "str" = none) (ha : DA X c [a] fs) (he : starEach [a] X.env = (false, eval a X.env) :: starEach [] X.env := by rfl) (hpl : (backTo pos (starEach [] X.env)).any (·.1) = false := by rfl) :
    DE X c (.Call (.Name "str" p) [a] [] pos) (fs.bind (g1 strD)) :=
  de_callTy call_str_int (call1 fun F H σ ρ x d Q rr t q => by
    cases t with
    | int i =>
      obtain ⟨z, q⟩ := Pst.grd (b := i.natAbs.log2 < 1920) q
      exact ⟨i, rfl, z, q.ret rr (.str _)⟩
    | _ => exact False.elim q) hg hm (by decide +kernel) ha (by decide) (by decide) he hpl
/-- two arguments -/
def g2 (g : D → D → M D) : List D → M D
  | [d, e] => g d e
  | _ => M.no
theorem call2 {r : List V → Hp → VK → Prop} {g : D → D → M D} (h : ∀ (F H : Hp) (σ : L2.St) (ρ : Sls) (x y : V) (d e : D) (Q : VK), R c F H σ ρ → c.Dt F x d → c.Dt F y e → Pst c σ F (g d e ρ) Q → r [x, y] H Q) : CallD c r (g2 g) := by
  intro F H σ ρ xs ds Q rr t q
  cases t with
  | nil => exact False.elim q
  | cons t1 tt =>
    cases tt with
    | nil => exact False.elim q
    | cons t2 tt =>
      cases tt with
      | cons _ _ => exact False.elim q
      | nil => exact h F H σ ρ _ _ _ _ Q rr t1 t2 q
def maxD : D → D → M D
  | .int i, .int j => M.ret (.int (if j > i then j else i))
  | _, _ => M.no
def minD : D → D → M D
  | .int i, .int j => M.ret (.int (if j < i then j else i))
  | _, _ => M.no
theorem de_max (hc : X.calm = true) (hg : Gl X "max") (hm : X.mg "max" = none) (ha : DA X c [a, b] fs) (he : starEach [a, b] X.env = (false, eval a X.env) :: starEach [b] X.env := by rfl) (hpl : (backTo pos (starEach [b] X.env)).any (·.1) = false := by rfl) :
    DE X c (.Call (.Name "max" p) [a, b] [] pos) (fs.bind (g2 maxD)) :=
  de_callB (call_max2 hc) (call2 fun F H σ ρ x y d e Q rr t u q => by
    cases t with
    | int i =>
      cases u with
      | int j => exact ⟨i, j, rfl, q.ret rr (.int _)⟩
      | _ => exact False.elim q
    | _ => exact False.elim q) hg hm (by decide +kernel) ha (by decide) (by decide) he hpl
theorem de_min (hc : X.calm = true) (hg : Gl X "min") (hm : X.mg "min" = none) (ha : DA X c [a, b] fs) (he : starEach [a, b] X.env = (false, eval a X.env) :: starEach [b] X.env := by rfl) (hpl : (backTo pos (starEach [b] X.env)).any (·.1) = false := by rfl) :
    DE X c (.Call (.Name "min" p) [a, b] [] pos) (fs.bind (g2 minD)) :=
  de_callB (call_min2 hc) (call2 fun F H σ ρ x y d e Q rr t u q => by
    cases t with
    | int i =>
      cases u with
      | int j => exact ⟨i, j, rfl, q.ret rr (.int _)⟩
      | _ => exact False.elim q
    | _ => exact False.elim q) hg hm (by decide +kernel) ha (by decide) (by decide) he hpl
def tupleD : D → M D
  | .lst ds | .rol ds | .tup ds => M.ret (.tup ds)
  | _ => M.no
theorem de_tuplec (fx : Fit X c) (hg : Gl X "tuple") (hm : X.mg "tuple" = none) (ha : DA X c [a] fs) (he : starEach [a] X.env = (false, eval a X.env) :: starEach [] X.env := by rfl) (hpl : (backTo pos (starEach [] X.env)).any (·.1) = false := by rfl) :
    DE X c (.Call (.Name "tuple" p) [a] [] pos) (fs.bind (g1 tupleD)) :=
  de_callTy call_tuple_of (call1 fun F H σ ρ x d Q rr t q => by
    rw [fx.k]
    cases t with
    | @lst a xs ds e t => exact ⟨a, xs, rfl, .inl ⟨rr.sub.sqL e, fun l hl => q.newTup rr t hl⟩⟩
    | @rol a xs ds e t => exact ⟨a, xs, rfl, .inl ⟨SqL.le rr.sub e, fun l hl => q.newTup rr t hl⟩⟩
    | @tup a xs ds e t => exact ⟨a, xs, rfl, .inr ⟨SqT.le rr.sub e, q.ret rr (.tup e t)⟩⟩
    | _ => exact False.elim q) hg hm (by decide +kernel) ha (by decide) (by decide) he hpl
def listD : D → M D
  | .lst ds | .rol ds | .tup ds => M.ret (.lst ds)
  | _ => M.no
theorem de_listc (fx : Fit X c) (hg : Gl X "list") (hm : X.mg "list" = none) (ha : DA X c [a] fs) (he : starEach [a] X.env = (false, eval a X.env) :: starEach [] X.env := by rfl) (hpl : (backTo pos (starEach [] X.env)).any (·.1) = false := by rfl) :
    DE X c (.Call (.Name "list" p) [a] [] pos) (fs.bind (g1 listD)) :=
  de_callTy call_list_of (call1 fun F H σ ρ x d Q rr t q => by
    rw [fx.k]
    cases t with
    | @lst a xs ds e t => exact ⟨a, xs, rfl, .inl (rr.sub.sqL e), fun l hl => q.newLst rr t hl⟩
    | @rol a xs ds e t => exact ⟨a, xs, rfl, .inl (SqL.le rr.sub e), fun l hl => q.newLst rr t hl⟩
    | @tup a xs ds e t => exact ⟨a, xs, rfl, .inr (SqT.le rr.sub e), fun l hl => q.newLst rr t hl⟩
    | _ => exact False.elim q) hg hm (by decide +kernel) ha (by decide) (by decide) he hpl
/-- all(a list of bools) -/
def bools : List D → Option (List Bool)
  | [] => some []
  | .bl b :: ds => (bools ds).map (b :: ·)
  | _ => none
theorem bools_of {K : PySem.W.Frag} {mg : Str → Option Value} : ∀ {ds : List D} {xs : List V} {bs : List Bool}, Dts K mg F xs ds → bools ds = some bs → xs = bs.map V.bl
  | [], _, _, .nil, e => by cases e; rfl
  | .bl b :: ds, _, bs, .cons t tt, e => by
    obtain ⟨cs, e1, e2⟩ := Option.map_eq_some_iff.mp e
    subst e2
    cases t
    rw [bools_of tt e1]; rfl
  | .non :: _, _, _, _, e => by cases e
  | .int _ :: _, _, _, _, e => by cases e
  | .str _ :: _, _, _, _, e => by cases e
  | .lst _ :: _, _, _, _, e => by cases e
  | .rol _ :: _, _, _, _, e => by cases e
  | .tup _ :: _, _, _, _, e => by cases e
  | .dct _ :: _, _, _, _, e => by cases e
  | .ob _ _ :: _, _, _, _, e => by cases e
  | .ex _ _ :: _, _, _, _, e => by cases e
  | .ty _ :: _, _, _, _, e => by cases e
  | .cl _ :: _, _, _, _, e => by cases e
def allD : D → M D
  | .lst ds => M.of ((bools ds).map fun bs => .bl (bs.all id))
  | _ => M.no
theorem de_all (fx : Fit X c) (hc : X.calm = true) (hg : Gl X "all") (hm : X.mg "all" = none) (ha : DA X c [a] fs) (he : starEach [a] X.env = (false, eval a X.env) :: starEach [] X.env := by rfl) (hpl : (backTo pos (starEach [] X.env)).any (·.1) = false := by rfl) :
    DE X c (.Call (.Name "all" p) [a] [] pos) (fs.bind (g1 allD)) :=
  de_callB (cr_all hc) (call1 fun F H σ ρ x d Q rr t q => by
    rw [fx.k]
    cases t with
    | @lst a xs ds e t =>
      obtain ⟨w, ew, q⟩ := Pst.of (o := (bools ds).map fun bs => D.bl (bs.all id)) q
      obtain ⟨bs, e1, e2⟩ := Option.map_eq_some_iff.mp ew
      subst e2
      exact ⟨a, bs, rfl, by rw [← bools_of t e1]; exact rr.sub.sqL e, q.ret rr (.bl _)⟩
    | _ => exact False.elim q) hg hm (by decide +kernel) ha (by decide) (by decide) he hpl

/-! ### isinstance -/
/-- a datum's type: a built-in one, a class of the text -/
abbrev Ty := Sum String Str
def D.tyOf : D → Option Ty
  | .non => some (.inl "NoneType")
  | .bl _ => some (.inl "bool")
  | .int _ => some (.inl "int")
  | .str _ => some (.inl "str")
  | .lst _ | .rol _ => some (.inl "list")
  | .tup _ => some (.inl "tuple")
  | .dct _ => some (.inl "dict")
  | .ob c _ => some (.inr c)
  | .ex c _ => some (.inr c)
  | _ => none
def D.asTy : D → Option Ty
  | .ty n => some (.inl n)
  | .cl c => some (.inr c)
  | _ => none
def TyIs (mg : Str → Option Value) : Ty → Value → Prop
  | .inl n, v => v = .type n
  | .inr c, v => mg c = some v
/-- which type is under which, as far as the table tells it -/
abbrev KT := Ty → Ty → Option Bool
def KtOk (K : PySem.W.Frag) (mg : Str → Option Value) (kt : KT) : Prop := ∀ t c b, kt t c = some b → ∀ tv cv, TyIs mg t tv → TyIs mg c cv → PySem.W.kitOne K tv cv = some b
/-- what makes a class's instances answer isinstance -/
structure InsT (K : PySem.W.Frag) (C : Addr) : Prop where
  cl : Cls K C
  ha : PySem.W.findIn K (.ref C) "__class__" = some (some (.builtin "object.__class__"))
  hn : PySem.W.specialIn K (.builtin "object.__class__") "__get__" = some (some (.builtin "getset_descriptor.__get__"))
  htk : PySem.W.takesIn K (.builtin "object.__class__") = some true
  hm : PySem.W.mroIn K C (.type "object") = some true
structure ExcT (K : PySem.W.Frag) (C : Addr) : Prop where
  hcl : (PySem.W.clsIn K C).isSome = true
  hga : PySem.W.findIn K (.ref C) "__getattribute__" = some (some (.builtin "BaseException.__getattribute__"))
  hgt : PySem.W.findIn K (.ref C) "__getattr__" = some none
  hsub : PySem.W.subIn K (.ref C) (.type "BaseException") = some true
  hdC : PySem.W.hasDictIn K C = true
  ha : PySem.W.findIn K (.ref C) "__class__" = some (some (.builtin "object.__class__"))
  hn : PySem.W.specialIn K (.builtin "object.__class__") "__get__" = some (some (.builtin "getset_descriptor.__get__"))
  htk : PySem.W.takesIn K (.builtin "object.__class__") = some true
  hm : PySem.W.mroIn K C (.type "object") = some true
/-- which classes of the text are of which kind: instances, exceptions -/
structure Kinds (K : PySem.W.Frag) (mg : Str → Option Value) (ins exc : List Str) : Prop where
  ins : ∀ c ∈ ins, ∀ C, mg c = some (.ref C) → InsT K C
  exc : ∀ c ∈ exc, ∀ C, mg c = some (.ref C) → ExcT K C
/-- a value of a type, for isinstance -/
inductive TyZ (K : PySem.W.Frag) (H : Hp) : V → Value → Prop where
  | of {x : V} {t : Value} (h : TyX K H x t) : TyZ K H x t
  | ex {a C d : Addr} {fs : List (Str × V)} (h : H a = some (exv a C d)) (hd : H d = some (.xd fs)) (T : ExcT K C) : TyZ K H (.ref a) (.ref C)
  | ex0 {a C : Addr} (h : H a = some (exn a C)) (T : ExcT K C) : TyZ K H (.ref a) (.ref C)
theorem kit_z {pins : List (Addr × Obj)} {s : Shared} {x : V} {u t : Value} (I : Inv X pins σ H s) (rx : RelV x u) (ty : TyZ X.K H x t) : ∃ P : Heap → Prop, PySem.W.KitX X.K u t P ∧ P s.heap ∧ u ≠ .builtin "__main__.__loader__#opaque" := by
  cases ty with
  | of h => exact kit_of I rx h
  | @ex a C d fs h hd T =>
    cases (show u = Value.ref a from rx)
    obtain ⟨⟨oe, vs, h1, h2, h3, h4⟩, _, _⟩ := (show ObjOk X.prog X.w H s.heap a (exv a C d) from I.hok a _ h)
    obtain ⟨mA, ⟨od, es, ep, e1, _⟩, _⟩ := (show ObjOk X.prog X.w H s.heap d (.xd fs) from I.hok d _ hd)
    exact ⟨_, PySem.W.kitx_exc (ox := oe) (od := some od) T.hcl T.hga T.hgt T.hsub T.ha T.hn T.htk T.hm, ⟨h1, h2, by unfold PySem.W.notCls; rw [h4] <;> rfl, by rw [h3]; exact e1⟩, fun z => nomatch z⟩
  | @ex0 a C h T =>
    cases (show u = Value.ref a from rx)
    obtain ⟨⟨oe, vs, h1, h2, h3, h4⟩, _, _⟩ := (show ObjOk X.prog X.w H s.heap a (exn a C) from I.hok a _ h)
    exact ⟨_, PySem.W.kitx_exc (ox := oe) (od := none) T.hcl T.hga T.hgt T.hsub T.ha T.hn T.htk T.hm, ⟨h1, h2, by unfold PySem.W.notCls; rw [h4] <;> rfl, by rw [h3]; exact True.intro⟩, fun z => nomatch z⟩
def rIsZ (K : PySem.W.Frag) : List V → Hp → VK → Prop := fun xs H Q => ∃ (x y : V) (t u : Value) (k : Bool), xs = [x, y] ∧ ClsV y u ∧ TyZ K H x t ∧ PySem.W.kitOne K t u = some k ∧ Q (.bl k) H
def rIsZT (K : PySem.W.Frag) : List V → Hp → VK → Prop := fun xs H Q => ∃ (x : V) (tp : Addr) (cs : List V) (t : Value) (us : List Value) (k : Bool), xs = [x, .ref tp] ∧ SqT K H tp cs ∧ Paired ClsV cs us ∧ TyZ K H x t ∧ PySem.W.kitAny K t us = some k ∧ Q (.bl k) H
theorem call_isZ : CallR X (.builtin "isinstance") (rIsZ X.K) := by
  intro pins s σ H xs us Q I r ⟨x, y, t, u, k, e1, e2, ty, e3, q⟩
  subst e1
  obtain ⟨u1, u2, rfl, r1, r2⟩ := vals2 r
  have e4 := e2.eq r2
  subst e4
  obtain ⟨P, Z, pp, hx⟩ := kit_z I r1 ty
  exact PySem.W.kia_one Z I.kIn pp e3 hx fun tk => ⟨.bl k, H, I.tok tk, rfl, q⟩
theorem call_isZT : CallR X (.builtin "isinstance") (rIsZT X.K) := by
  intro pins s σ H xs us Q I r ⟨x, tp, cs, t, ws, k, e1, hT, e2, ty, e3, q⟩
  subst e1
  obtain ⟨u1, u2, rfl, r1, r2⟩ := vals2 r
  cases (show u2 = Value.ref tp from r2)
  obtain ⟨P, Z, pp, hx⟩ := kit_z I r1 ty
  obtain ⟨its, rv, ⟨⟨oc, od, dt, sl⟩, h1, h2, n, h3⟩, _⟩ := I.tuple hT
  have e4 := ClsV.all e2 rv
  subst e4
  dsimp only at h2 h3
  subst h2 h3
  exact PySem.W.kia_tup Z I.kIn pp h1 e3 hx fun tk => ⟨.bl k, H, I.tok tk, rfl, q⟩
def asTys : List D → Option (List Ty)
  | [] => some []
  | d :: ds => match d.asTy, asTys ds with
    | some c, some cs => some (c :: cs)
    | _, _ => none
def isiAny (kt : KT) (t : Ty) : List Ty → Option Bool
  | [] => some false
  | c :: cs => match kt t c with
    | some true => some true
    | some false => isiAny kt t cs
    | none => none
/-- isinstance of these kinds of classes -/
def okKind (ins exc : List Str) : D → Bool
  | .ob c _ => ins.contains c
  | .ex c _ => exc.contains c
  | _ => true
def isiD (ins exc : List Str) (kt : KT) (x y : D) : M D :=
  if okKind ins exc x = true then
    match x.tyOf, y with
    | some t, .tup ds => M.of (((asTys ds).bind (isiAny kt t)).map .bl)
    | some t, y => match y.asTy with
      | some cc => M.of ((kt t cc).map .bl)
      | none => M.no
    | none, _ => M.no
  else M.no
theorem Dt.tyz {K : PySem.W.Frag} {mg : Str → Option Value} {ins exc : List Str} (kk : Kinds K mg ins exc) (s : Le F H) {x : V} {d : D} {t : Ty} (h : Dt K mg F x d) (e : d.tyOf = some t) (hc : okKind ins exc d = true) :
    ∃ tv, TyZ K H x tv ∧ TyIs mg t tv := by
  cases h with
  | non => cases e; exact ⟨_, .of (.base .non), rfl⟩
  | bl b => cases e; exact ⟨_, .of (.base (.bl b)), rfl⟩
  | int i => cases e; exact ⟨_, .of (.base (.int i)), rfl⟩
  | str z => cases e; exact ⟨_, .of (.base (.str z)), rfl⟩
  | lst h t => cases e; exact ⟨_, .of (.base (.lst (s _ _ h))), rfl⟩
  | rol h t =>
    cases e
    rcases SqL.le s h with (h | ⟨o, h⟩) | ⟨o, its, n, h, hc, _⟩
    · exact ⟨_, .of (.base (.lst h)), rfl⟩
    · exact ⟨_, .of (.base (.frz h)), rfl⟩
    · exact ⟨_, .of (.kList h hc), rfl⟩
  | tup h t =>
    cases e
    rcases SqT.le s h with (h | ⟨o, h⟩) | ⟨o, its, n, h, hc, _⟩
    · exact ⟨_, .of (.base (.tup h)), rfl⟩
    · exact ⟨_, .of (.fTuple h), rfl⟩
    · exact ⟨_, .of (.kTuple h hc), rfl⟩
  | dct h k t => cases e; exact ⟨_, .of (.fDict (s _ _ h)), rfl⟩
  | @ob a C dx c fs ds m h k t =>
    cases e
    have T := kk.ins c (by simpa [okKind] using hc) C m
    exact ⟨_, .of (.base (.ins (s _ _ h) T.cl T.ha T.hn T.htk T.hm)), m⟩
  | @ex a C dd c fs ds m h hd k t =>
    cases e
    have T := kk.exc c (by simpa [okKind] using hc) C m
    exact ⟨_, .ex (s _ _ h) (s _ _ hd) T, m⟩
  | @ex0 a C c m h =>
    cases e
    have T := kk.exc c (by simpa [okKind] using hc) C m
    exact ⟨_, .ex0 (s _ _ h) T, m⟩
  | ty n => cases e
  | cl m => cases e
theorem Dt.asty {K : PySem.W.Frag} {mg : Str → Option Value} {y : V} {d : D} {cc : Ty} (h : Dt K mg F y d) (e : d.asTy = some cc) : ∃ u, ClsV y u ∧ TyIs mg cc u := by
  cases h with
  | ty n => cases e; exact ⟨_, .ty n, rfl⟩
  | cl m => cases e; exact ⟨_, .own _, m⟩
  | _ => cases e
theorem as_tys {K : PySem.W.Frag} {mg : Str → Option Value} : ∀ {vs : List V} {ds : List D} {cs : List Ty}, Dts K mg F vs ds → asTys ds = some cs → ∃ us, Paired ClsV vs us ∧ Paired (TyIs mg) cs us
  | _, _, _, .nil, e => by cases e; exact ⟨[], .nil, .nil⟩
  | _, d :: ds, cs, .cons h tt, e => by
    unfold asTys at e
    cases e1 : d.asTy with
    | none => rw [e1] at e; cases e
    | some cc =>
      cases e2 : asTys ds with
      | none => rw [e1, e2] at e; cases e
      | some cs' =>
        rw [e1, e2] at e
        cases e
        obtain ⟨u, k1, k2⟩ := h.asty e1
        obtain ⟨us, k3, k4⟩ := as_tys tt e2
        exact ⟨u :: us, .cons k1 k3, .cons k2 k4⟩
theorem isi_any {K : PySem.W.Frag} {mg : Str → Option Value} {kt : KT} (ok : KtOk K mg kt) {t : Ty} {tv : Value} (ht : TyIs mg t tv) : ∀ {cs : List Ty} {us : List Value} {b : Bool}, Paired (TyIs mg) cs us → isiAny kt t cs = some b → PySem.W.kitAny K tv us = some b
  | _, _, _, .nil, e => by cases e; rfl
  | c :: cs, u :: us, b, .cons h tt, e => by
    unfold isiAny at e
    unfold PySem.W.kitAny
    cases e2 : kt t c with
    | none => rw [e2] at e; cases e
    | some r =>
      rw [e2] at e
      rw [ok t c r e2 tv u ht h]
      cases r with
      | true => exact e
      | false => exact isi_any ok ht tt e
theorem isi_ok {ins exc : List Str} {kt : KT} (fx : Fit X c) (kk : Kinds c.K c.mg ins exc) (ok : KtOk c.K c.mg kt) : CallD c (fun xs H Q => rIsZ X.K xs H Q ∨ rIsZT X.K xs H Q) (g2 (isiD ins exc kt)) := call2 fun F H σ ρ x y d e Q rr t u q => by
  rw [fx.k]
  unfold isiD at q
  by_cases hc : okKind ins exc d = true
  · rw [if_pos hc] at q
    cases e1 : d.tyOf with
    | none => rw [e1] at q; exact False.elim (by cases u <;> exact q)
    | some tt =>
      rw [e1] at q
      obtain ⟨tv, tz, ti⟩ := t.tyz kk rr.sub e1 hc
      have plain : ∀ {e : D}, c.Dt F y e → Pst c σ F ((match e.asTy with | some cc => M.of ((kt tt cc).map .bl) | none => M.no : M D) ρ) Q → rIsZ c.K [x, y] H Q := fun {e} u q => by
        cases e2 : e.asTy with
        | none => rw [e2] at q; exact False.elim q
        | some cc =>
          rw [e2] at q
          obtain ⟨w, ew, q⟩ := Pst.of (o := (kt tt cc).map D.bl) q
          obtain ⟨b, e3, e4⟩ := Option.map_eq_some_iff.mp ew
          subst e4
          obtain ⟨uv, k1, k2⟩ := u.asty e2
          exact ⟨x, y, tv, uv, b, rfl, k1, tz, ok tt cc b e3 tv uv ti k2, q.ret rr (.bl _)⟩
      cases u with
      | @tup a xs ds h t2 =>
        obtain ⟨w, ew, q⟩ := Pst.of (o := ((asTys ds).bind (isiAny kt tt)).map D.bl) q
        obtain ⟨b, e3, e4⟩ := Option.map_eq_some_iff.mp ew
        subst e4
        obtain ⟨cs, e5, e6⟩ := Option.bind_eq_some_iff.mp e3
        obtain ⟨us, k1, k2⟩ := as_tys t2 e5
        exact .inr ⟨x, a, xs, tv, us, b, rfl, SqT.le rr.sub h, k1, tz, isi_any ok ti k2 e6, q.ret rr (.bl _)⟩
      | ty n => exact .inl (plain (.ty n) q)
      | cl m => exact .inl (plain (.cl m) q)
      | _ => exact False.elim q
  · rw [if_neg hc] at q; exact False.elim q
theorem de_isi {ins exc : List Str} {kt : KT} (fx : Fit X c) (kk : Kinds c.K c.mg ins exc) (ok : KtOk c.K c.mg kt) (hg : Gl X "isinstance") (hm : X.mg "isinstance" = none) (ha : DA X c [a, b] fs) (he : starEach [a, b] X.env = (false, eval a X.env) :: starEach [b] X.env := by rfl) (hpl : (backTo pos (starEach [b] X.env)).any (·.1) = false := by rfl) :
    DE X c (.Call (.Name "isinstance" p) [a, b] [] pos) (fs.bind (g2 (isiD ins exc kt))) :=
  de_callB (call_isZ.or call_isZT) (isi_ok fx kk ok) hg hm (by decide +kernel) ha (by decide) (by decide) he hpl
/-- a built-in type as a value, a class of the text as a value -/
theorem de_ty {x : Str} {n : String} (hg : Gl X x) (hm : X.mg x = none) (hv : bootBuiltins x = some (.type n)) (hn : x ≠ "__name__" := by decide) (hd : (x == ("__debug__" : Str)) = false := by decide) : DE X c (.Name x pos) (M.ret (.ty n)) :=
  PEw (pe_bltn (v := .ty n) hg hm hv rfl hn hd) fun σ H Q ⟨F, ρ, r, h⟩ => h.ret r (.ty n)
theorem de_cl (fx : Fit X c) {x : Str} {C : Addr} (hg : Gl X x) (hm : X.mg x = some (.ref C)) (hd : (x == ("__debug__" : Str)) = false := by decide) : DE X c (.Name x pos) (M.ret (.cl x)) :=
  PEw (pe_glob (v := .ref C) hg hm rfl hd) fun σ H Q ⟨F, ρ, r, h⟩ => h.ret r (.cl (by rw [← fx.mg]; exact hm))

/-! ### methods of built-in types -/
def MethD (c : Fc) (K : PySem.W.Frag) (T : String) (r : V → List V → Hp → VK → Prop) (g : D → List D → M D) (tyd : D → Bool) : Prop :=
  (∀ (F H : Hp) (x : V) (d : D), Le F H → c.Dt F x d → tyd d = true → tyV K T x H) ∧ ∀ (F H : Hp) (σ : L2.St) (ρ : Sls) (x : V) (xs : List V) (d : D) (ds : List D) (Q : VK), R c F H σ ρ → c.Dt F x d → c.Dts F xs ds → tyd d = true → Pst c σ F (g d ds ρ) Q → r x xs H Q
def M.meth (fa : M D) (fs : M (List D)) (tyd : D → Bool) (g : D → List D → M D) : M D := fa.bind fun d => M.grd (tyd d) (fs.bind fun ds => g d ds)
theorem de_meth {T id : String} {name : Str} {apos : Pos} {r : V → List V → Hp → VK → Prop} {g : D → List D → M D} {tyd : D → Bool} (pa : PlainAttrs T) (slot : Slot T name id) (hty : typeOf (.builtin id) = pure (.type "method_descriptor")) (hm : MtR X id r) (hd : MethD c X.K T r g tyd)
    (ho : DE X c a fa) (ha : DA X c (b :: es) fs) (hbase : attributeBase a name X.env (eval a X.env) = eval a X.env := by rfl)
    (hfew : ((backTo pos (starEach (b :: es) X.env)).all (fun x => !x.1) && (backToKw pos (keywordEach [] X.env)).all (fun x => x.1.isSome)
      && decide ((b :: es).length + ([] : List Keyword).length + (if ([] : List Keyword).isEmpty then 0 else 1) < 30)) = true := by rfl)
    (hline : (apos.endLine == pos.line) = true := by rfl) (hs : starEach (b :: es) X.env = (false, eval b X.env) :: starEach es X.env := by rfl) (hplain : (backTo pos (starEach es X.env)).any (·.1) = false := by rfl) :
    DE X c (.Call (.Attribute a name apos) (b :: es) [] pos) (M.meth fa fs tyd g) :=
  PEw (pe_bm pa slot hty hm ho ha hbase hfew hline hs hplain) fun σ H Q ⟨F, ρ, rr, h⟩ => ⟨F, ρ, rr, (Pst.bind h).mono (.refl _) fun x H1 ⟨F1, ρ1, d, r1, l1, t1, h1⟩ => by
    obtain ⟨z, h1⟩ := Pst.grdB (p := tyd d) h1
    exact ⟨hd.1 F1 H1 x d r1.sub t1 z, F1, ρ1, r1, (Pst.bindA h1).mono (.refl _) fun xs H2 ⟨F2, ρ2, ds, r2, l2, t2, h2⟩ => hd.2 F2 H2 σ ρ2 x xs d ds Q r2 (t1.le l2) t2 z h2⟩⟩
def isS : D → Bool
  | .str _ => true
  | _ => false
theorem isS_ty {K : PySem.W.Frag} (F H : Hp) (x : V) (d : D) (_ : Le F H) (t : c.Dt F x d) (z : isS d = true) : tyV K "str" x H := by
  cases t with
  | str s => exact rfl
  | _ => cases z
/-- sep.join(a list or tuple of texts) -/
def txts : List D → Option (List Str)
  | [] => some []
  | .str x :: ds => (txts ds).map (x :: ·)
  | _ => none
theorem txts_of {K : PySem.W.Frag} {mg : Str → Option Value} : ∀ {ds : List D} {xs : List V} {ys : List Str}, Dts K mg F xs ds → txts ds = some ys → xs = ys.map V.str
  | [], _, _, .nil, e => by cases e; rfl
  | .str x :: ds, _, ys, .cons t tt, e => by
    obtain ⟨cs, e1, e2⟩ := Option.map_eq_some_iff.mp e
    subst e2
    cases t
    rw [txts_of tt e1]; rfl
  | .non :: _, _, _, _, e => by cases e
  | .int _ :: _, _, _, _, e => by cases e
  | .bl _ :: _, _, _, _, e => by cases e
  | .lst _ :: _, _, _, _, e => by cases e
  | .rol _ :: _, _, _, _, e => by cases e
  | .tup _ :: _, _, _, _, e => by cases e
  | .dct _ :: _, _, _, _, e => by cases e
  | .ob _ _ :: _, _, _, _, e => by cases e
  | .ex _ _ :: _, _, _, _, e => by cases e
  | .ty _ :: _, _, _, _, e => by cases e
  | .cl _ :: _, _, _, _, e => by cases e
def joinS (a : Str) (ds : List D) : M D := match txts ds with
  | some ys => M.grd (decide ((ys.map (·.length)).sum + ys.length * a.length ≤ 16777216)) (M.ret (.str (Txt.join a ys)))
  | none => M.no
def joinD (a : Str) : D → M D
  | .lst ds | .tup ds | .rol ds => joinS a ds
  | _ => M.no
def gJoin : D → List D → M D
  | .str a, [d] => joinD a d
  | _, _ => M.no
theorem joinS_of {a : Str} {ds : List D} {xs : List V} {Q : VK} (t : c.Dts F xs ds) (h : Pst c σ F (joinS a ds ρ) Q) : ∃ ys, xs = ys.map V.str ∧ (ys.map (·.length)).sum + ys.length * a.length ≤ 16777216 ∧ Pst c σ F (M.ret (.str (Txt.join a ys)) ρ) Q := by
  unfold joinS at h
  cases e : txts ds with
  | none => rw [e] at h; exact False.elim h
  | some ys =>
    rw [e] at h
    obtain ⟨z, h⟩ := Pst.grd (b := (ys.map (·.length)).sum + ys.length * a.length ≤ 16777216) h
    exact ⟨ys, txts_of t e, z, h⟩
theorem de_join {apos : Pos} (fx : Fit X c) (ho : DE X c a fa) (ha : DA X c [b] fs) (hbase : attributeBase a "join" X.env (eval a X.env) = eval a X.env := by rfl)
    (hfew : ((backTo pos (starEach [b] X.env)).all (fun x => !x.1) && (backToKw pos (keywordEach [] X.env)).all (fun x => x.1.isSome)
      && decide ([b].length + ([] : List Keyword).length + (if ([] : List Keyword).isEmpty then 0 else 1) < 30)) = true := by rfl)
    (hline : (apos.endLine == pos.line) = true := by rfl) (hs : starEach [b] X.env = (false, eval b X.env) :: starEach [] X.env := by rfl) (hplain : (backTo pos (starEach [] X.env)).any (·.1) = false := by rfl) :
    DE X c (.Call (.Attribute a "join" apos) [b] [] pos) (M.meth fa fs isS gJoin) :=
  de_meth PySem.F.plainAttrs_str PySem.F.slot_str_join PySem.F.type_str_join mt_join ⟨isS_ty, fun F H σ ρ x xs d ds Q rr t ts z h => by
    rw [fx.k]
    cases t with
    | str s =>
      rcases one_of ts with ⟨v, d, rfl, rfl, t⟩ | rfl | ⟨_, _, _, rfl⟩
      · cases t with
        | @lst l vs es e te => obtain ⟨ys, e1, z1, h⟩ := joinS_of te h; subst e1; exact ⟨s, l, ys, rfl, rfl, .inl (rr.sub.sqL e), z1, h.ret rr (.str _)⟩
        | @rol l vs es e te => obtain ⟨ys, e1, z1, h⟩ := joinS_of te h; subst e1; exact ⟨s, l, ys, rfl, rfl, .inl (SqL.le rr.sub e), z1, h.ret rr (.str _)⟩
        | @tup l vs es e te => obtain ⟨ys, e1, z1, h⟩ := joinS_of te h; subst e1; exact ⟨s, l, ys, rfl, rfl, .inr (SqT.le rr.sub e), z1, h.ret rr (.str _)⟩
        | _ => exact False.elim h
      · exact False.elim h
      · exact False.elim h
    | _ => cases z⟩ ho ha hbase hfew hline hs hplain

/-! ### f-strings -/
def fmtD : D → M D
  | .str y => M.grd (lineS y) (M.ret (.str y))
  | .int i => M.grd (decide (i.natAbs.log2 < 1920)) (M.ret (.str (toString i)))
  | _ => M.no
theorem de_fmt (ha : DE X c a fa) : DE X c (.FormattedValue a (-1) none pos) (fa.bind fmtD) := PEw (pe_fmt ha) fun σ H Q ⟨F, ρ, rr, h⟩ => ⟨F, ρ, rr, (Pst.bind h).mono (.refl _) fun x H1 ⟨F1, ρ1, d, r1, l1, t1, h1⟩ => by
  cases t1 with
  | str y => obtain ⟨z, h1⟩ := Pst.grdB (p := lineS y) h1; exact .inl ⟨y, rfl, lineS_of z, h1.ret r1 (.str _)⟩
  | int i => obtain ⟨z, h1⟩ := Pst.grd (b := i.natAbs.log2 < 1920) h1; exact .inr ⟨i, rfl, z, h1.ret r1 (.str _)⟩
  | _ => exact False.elim h1⟩
inductive DJ (X : Cx) (c : Fc) : List Expr → List (M D) → Prop where
  | nil : DJ X c [] []
  | cons {e : Expr} {f : M D} {es : List Expr} {gs : List (M D)} (h : DE X c e f) (r : DJ X c es gs) : DJ X c (e :: es) (f :: gs)
theorem DJ.pj {es : List Expr} {gs : List (M D)} (h : DJ X c es gs) : PJ X es (gs.map (tE c)) := by
  induction h with
  | nil => exact .nil
  | cons h _ ih => exact .cons h ih
def M.js : List (M D) → Str → M D
  | [], acc => M.ret (.str acc)
  | f :: fs, acc => f.bind fun d => match d with
    | .str y => M.grd (lineS (acc ++ y)) (M.js fs (acc ++ y))
    | _ => M.no
theorem js_read : ∀ (gs : List (M D)) (acc : Str) (F H : Hp) (ρ : Sls) (Q : VK), R c F H σ ρ → Pst c σ F (M.js gs acc ρ) Q → tJs (gs.map (tE c)) acc σ H fun out H1 => Q (.str out) H1
  | [], acc, F, H, ρ, Q, rr, h => Pst.ret h rr (.str acc)
  | f :: gs, acc, F, H, ρ, Q, rr, h => ⟨F, ρ, rr, (Pst.bind (m := f) h).mono (.refl _) fun x H1 ⟨F1, ρ1, d, r1, l1, t1, h1⟩ => by
    cases t1 with
    | str y =>
      obtain ⟨z, h1⟩ := Pst.grdB (p := lineS (acc ++ y)) h1
      exact ⟨y, rfl, lineS_of z, js_read gs (acc ++ y) F1 H1 ρ1 Q r1 h1⟩
    | _ => exact False.elim h1⟩
theorem de_js {v1 v2 : Expr} {rest : List Expr} {gs : List (M D)} (h : DJ X c (v1 :: v2 :: rest) gs) : DE X c (.JoinedStr (v1 :: v2 :: rest) pos) (M.js gs Str.empty) :=
  PEw (pe_joined h.pj) fun σ H Q ⟨F, ρ, rr, q⟩ => js_read gs Str.empty F H ρ Q rr q
end
end DL

set_option Elab.async false
set_option linter.all false
set_option maxRecDepth 100000
set_option maxHeartbeats 4000000
/-! DL9: a def's own lists and dicts; attributes; instances made; own errors raised; calls that change an own list. -/
namespace DL
open PySem PySem.Spec PyProof.Rows L2
section
variable {X : Cx} {c : Fc} {F H : Hp} {σ : L2.St} {ρ : Sls} {a b e : Expr} {fa fb fe : M D} {es : List Expr} {fs : M (List D)} {pos p : Pos} {i : Nat} {x : Str}

/-! ### own lists and dicts: made -/
theorem R.mkOwn {o : HO} {q : Addr} {d : D} (r : R c F H σ ρ) (hq : H q = none) (ow : OwnOk c.K c.mg F (upd H q o) q d) : R c F (upd H q o) (σ.set i (some (.ref q))) (ρ.set i (.ow d)) := by
  have e : Ext c.T F H F (upd H q o) := .newO r.sub hq
  exact (r.ext e).setOw (r.fnone hq) (r.gnone hq) ow (r.nu hq)
def M.setOw (i : Nat) (f : M (List D)) (k : List D → D) : M Out := f.bind fun ds => M.grd (ds.length ≤ 16777216) fun ρ => .ok .nx (ρ.set i (.ow (k ds)))
theorem Sst.grd {b : Prop} [Decidable b] {m : M Out} {E : Ends} (h : Sst c F (M.grd (decide b) m ρ) E) : b ∧ Sst c F (m ρ) E := by
  unfold M.grd at h
  by_cases z : b
  · rw [decide_eq_true z] at h; exact ⟨z, h⟩
  · rw [decide_eq_false z] at h; exact h.elim
theorem ds_ownL {pos' p2 : Pos} (ha : DA X c es fs) (hN : X.N.Nodup) (hi : X.N[i]? = some x) (hx : Loc X.env.scope x) (hs : swapsWith (.List es p2) (some (.Name x pos')) pos.line X.env = pure false := by rfl)
    (hf : X.fn x = true ∨ X.env.scope.names.lookup x = some .local := by first | exact .inl rfl | exact .inr rfl | assumption) : DS X c (.Assign [.Name x pos'] (.List es p2) pos) (M.setOw i fs .lst) :=
  PSw (ps_set hN hi hx (pe_lst ha) hs hf) fun E σ H ⟨F, ρ, r, h⟩ => ⟨F, ρ, r, (Sst.bindA (σ := σ) h).mono (.refl _) fun vs H1 ⟨F1, ρ1, ds, r1, l1, t1, h1⟩ => by
    obtain ⟨z, h1⟩ := Sst.grd (b := ds.length ≤ 16777216) h1
    exact ⟨by rw [line_eq, t1.length]; exact z, fun q hq => h1 _ F1 _ (r1.mkOwn hq ⟨vs, upd_same, t1⟩) (.refl _)⟩⟩
theorem ds_ownD {pos' p2 : Pos} (hN : X.N.Nodup) (hi : X.N[i]? = some x) (hx : Loc X.env.scope x) (hs : swapsWith (.Dict [] [] p2) (some (.Name x pos')) pos.line X.env = pure false := by rfl)
    (hf : X.fn x = true ∨ X.env.scope.names.lookup x = some .local := by first | exact .inl rfl | exact .inr rfl | assumption) : DS X c (.Assign [.Name x pos'] (.Dict [] [] p2) pos) (fun ρ => .ok .nx (ρ.set i (.ow (.dct [])))) :=
  PSw (ps_set hN hi hx pe_dnewK hs hf) fun E σ H ⟨F, ρ, r, h⟩ => fun q hq => h _ F _ (r.mkOwn hq ⟨[], upd_same, rfl, .nil⟩) (.refl _)
/-- x, y = e, {} -/
theorem ds_parD {j : Nat} {y : Str} {px py pt : Pos} {kt k2 pt2} {p2 : Pos} (hc : X.calm = true) (hN : X.N.Nodup) (hi : X.N[i]? = some x) (hj : X.N[j]? = some y) (hij : i ≠ j)
    (hx : X.env.scope.names.lookup x = some .local) (hy : X.env.scope.names.lookup y = some .local) (ha : DE X c a fa)
    (hw : swappedStores [.Tuple [.Name x px, .Name y py] kt pt] (.Tuple [a, .Dict [] [] p2] k2 pt2) X.env = pure (some [x, y]))
    (hs : swapsWithSole [.Tuple [.Name x px, .Name y py] kt pt] (.Tuple [a, .Dict [] [] p2] k2 pt2) pos.line X.env = pure false := by rfl)
    (hst : starEach [a, .Dict [] [] p2] X.env = (false, eval a X.env) :: starEach [.Dict [] [] p2] X.env := by rfl) (hst2 : starEach [.Dict [] [] p2] X.env = (false, eval (.Dict [] [] p2) X.env) :: starEach [] X.env := by rfl) :
    DS X c (.Assign [.Tuple [.Name x px, .Name y py] kt pt] (.Tuple [a, .Dict [] [] p2] k2 pt2) pos) (fa.bind fun d ρ => .ok .nx ((ρ.set i (.im d)).set j (.ow (.dct [])))) :=
  PSw (ps_par hc hN hi hj hij hx hy (pa_cons ha (pa_cons pe_dnewK pa_nil hst2) hst) hw hs) fun E σ H ⟨F, ρ, r, h⟩ => ⟨F, ρ, r, (Sst.bind (σ := σ) h).mono (.refl _) fun v H1 ⟨F1, ρ1, d, r1, l1, t1, h1⟩ => fun q hq => by
    refine ⟨_, _, rfl, h1 _ F1 _ ?_ (.refl _)⟩
    exact (r1.setIm t1).mkOwn (i := j) hq ⟨[], upd_same, rfl, .nil⟩⟩

/-! ### own lists and dicts: read and changed -/
/-- the list that a slot's own object is -/
def ownL : Option Sl → Option (List D)
  | some (.ow (.lst ds)) => some ds
  | some (.bo (.lst ds)) => some ds
  | _ => none
def ownK : Option Sl → Option (List (Key × D))
  | some (.ow (.dct ks)) => some ks
  | some (.bo (.dct ks)) => some ks
  | _ => none
/-- the slot with another content -/
def reSl (d : D) : Option Sl → Sl
  | some (.bo _) => .bo d
  | _ => .ow d
theorem R.atL {ds : List D} (r : R c F H σ ρ) (h : ownL ρ[i]? = some ds) : ∃ q xs, σ[i]? = some (some (.ref q)) ∧ F q = none ∧ H q = some (.lst xs) ∧ c.Dts F xs ds ∧ ∃ sl, (sl = Sl.ow ∨ sl = Sl.bo) ∧ ρ[i]? = some (sl (.lst ds)) ∧ ∀ d, reSl d ρ[i]? = sl d := by
  have x := r.sl i
  cases e : ρ[i]? with
  | none => rw [e] at h; cases h
  | some s =>
    rw [e] at h x
    cases s with
    | un => cases h
    | im d => cases h
    | ow d =>
      cases d <;> cases h
      obtain ⟨q, e1, e2, e3, xs, e4, e5⟩ := x
      exact ⟨q, xs, e1, e2, e4, e5, .ow, .inl rfl, rfl, fun _ => rfl⟩
    | bo d =>
      cases d <;> cases h
      obtain ⟨q, e1, e2, e3, xs, e4, e5⟩ := x
      exact ⟨q, xs, e1, e2, e4, e5, .bo, .inr rfl, rfl, fun _ => rfl⟩
theorem R.atK {ds : List (Key × D)} (r : R c F H σ ρ) (h : ownK ρ[i]? = some ds) : ∃ q xs, σ[i]? = some (some (.ref q)) ∧ F q = none ∧ H q = some (.dK xs) ∧ xs.map (·.1) = ds.map (·.1) ∧ c.Dts F (xs.map (·.2)) (ds.map (·.2)) ∧ ∃ sl, (sl = Sl.ow ∨ sl = Sl.bo) ∧ ρ[i]? = some (sl (.dct ds)) ∧ ∀ d, reSl d ρ[i]? = sl d := by
  have x := r.sl i
  cases e : ρ[i]? with
  | none => rw [e] at h; cases h
  | some s =>
    rw [e] at h x
    cases s with
    | un => cases h
    | im d => cases h
    | ow d =>
      cases d <;> cases h
      obtain ⟨q, e1, e2, e3, xs, e4, e5, e6⟩ := x
      exact ⟨q, xs, e1, e2, e4, e5, e6, .ow, .inl rfl, rfl, fun _ => rfl⟩
    | bo d =>
      cases d <;> cases h
      obtain ⟨q, e1, e2, e3, xs, e4, e5, e6⟩ := x
      exact ⟨q, xs, e1, e2, e4, e5, e6, .bo, .inr rfl, rfl, fun _ => rfl⟩
theorem codeO_ext {c : Addr} {q : Str} {o : HO} (h : ∀ φ, o ≠ .ext φ) : o ≠ LamX.CodeO c q := fun z => by
  unfold LamX.CodeO at z
  exact h _ z
theorem tabs_upd {T : List (Addr × Str)} {q : Addr} {o o1 : HO} (hH : H q = some o1) (n : ∀ ps, o1 ≠ .tbl ps) (n2 : ∀ φ, o1 ≠ .ext φ) (t : LamX.Tabs T H) : LamX.Tabs T (upd H q o) := fun p hp => by
  obtain ⟨ps, k1, k2, k3⟩ := t p hp
  refine ⟨ps, by rw [upd_ne (fun z => by rw [z, hH] at k1; exact n ps (Option.some.inj k1))]; exact k1, k2, fun pos cv hc => ?_⟩
  obtain ⟨c', e1, e2⟩ := k3 pos cv hc
  exact ⟨c', e1, by rw [upd_ne (fun z => by rw [z, hH] at e2; exact codeO_ext n2 (Option.some.inj e2))]; exact e2⟩
theorem extB_upd {T : List (Addr × Str)} {q : Addr} {o o1 : HO} (s : Le F H) (hq : F q = none) (hH : H q = some o1) (n : ∀ ps, o1 ≠ .tbl ps := by exact fun _ z => nomatch z) (n2 : ∀ φ, o1 ≠ .ext φ := by exact fun _ z => nomatch z) : ExtB T q F H F (upd H q o) :=
  ⟨(fun a u _ n e => by rw [upd_ne n]; exact e), tabs_upd hH n n2, (fun a e => by
      by_cases z : a = q
      · rw [z, upd_same]; exact fun y => (by cases y)
      · rw [upd_ne z]; exact e), (by rw [upd_same]; exact fun z => (by cases z)), fun _ _ => rfl, (fun a u e => by rw [upd_ne (fun z => by rw [z, hq] at e; cases e)]; exact s a u e)⟩
/-- tub[k], read -/
def M.ixO (i : Nat) (fb : M D) : M D := fun ρ => match ownL ρ[i]? with
  | some _ => (fb.bind fun k ρ' => match ownL ρ'[i]?, k with
    | some ds, .int j => M.of (atI ds j) ρ'
    | _, _ => .no) ρ
  | none => .no
theorem de_ixO (fx : Fit X c) (hN : X.N[i]? = some x) (hv : Vis X.env.scope x) (hb : DE X c b fb) (hs : PlainIx b := by exact fun _ _ => rfl) (hd : (x == ("__debug__" : Str)) = false := by decide) (hcd : (x == ("__classdict__" : Str)) = false := by decide) :
    DE X c (.Subscript (.Name x p) b pos) (M.ixO i fb) := PEw (pe_ix ix_list (pe_var hN hv hd hcd) hb hs) fun σ H Q ⟨F, ρ, rr, h⟩ => by
  unfold M.ixO at h
  cases e : ownL ρ[i]? with
  | none => rw [e] at h; exact False.elim h
  | some ds0 =>
    rw [e] at h
    obtain ⟨q, _, eσ, _⟩ := rr.atL e
    refine ⟨.ref q, eσ, F, ρ, rr, (Pst.bind h).mono (.refl _) fun y H1 ⟨F1, ρ1, k, r1, l1, t1, h1⟩ => ?_⟩
    cases e1 : ownL ρ1[i]? with
    | none => rw [e1] at h1; exact False.elim h1
    | some ds =>
      rw [e1] at h1
      obtain ⟨q', xs, eσ', _, eH, tt, _⟩ := r1.atL e1
      rw [eσ] at eσ'
      cases eσ'
      cases t1 with
      | int j =>
        obtain ⟨w, ew, h1⟩ := Pst.of (o := atI ds j) h1
        obtain ⟨v, ev, dv⟩ := tt.atI ew
        rw [fx.k]
        exact ⟨q, xs, j, v, rfl, rfl, .inl (.inl eH), ev, h1.ret r1 dv⟩
      | _ => exact False.elim h1
/-- tub[k] = e -/
def M.putO (i : Nat) (fv fk : M D) : M Out := fv.bind fun v ρ => match ownL ρ[i]? with
  | some _ => (fk.bind fun k ρ' => match ownL ρ'[i]?, k with
    | some ds, .int j => match ixN ds.length j with
      | some n => .ok .nx (ρ'.set i (reSl (.lst (ds.set n v)) ρ'[i]?))
      | none => .no
    | _, _ => .no) ρ
  | none => .no
theorem ds_putO {pos' : Pos} (hN : X.N[i]? = some x) (hv : Vis X.env.scope x) (he : DE X c e fe) (hb : DE X c b fb) (hg : PG X (.Subscript (.Name x p) b pos') (L2.gSub (tVar i) (tE c fb) rSetL)) (hs : swapsWithSole [.Subscript (.Name x p) b pos'] e pos.line X.env = pure false := by rfl) (hw : swappedStores [.Subscript (.Name x p) b pos'] e X.env = pure none := by rfl)
    (h1 : (assignEach [.Subscript (.Name x p) b pos'] X.env).map (·.2) = [assign (.Subscript (.Name x p) b pos') X.env] := by rfl) (hd : (x == ("__debug__" : Str)) = false := by decide) (hcd : (x == ("__classdict__" : Str)) = false := by decide) :
    DS X c (.Assign [.Subscript (.Name x p) b pos'] e pos) (M.putO i fe fb) := PSw (ps_asg he hg hs hw h1) fun E σ H ⟨F, ρ, rr, h⟩ => ⟨F, ρ, rr, (Sst.bind (σ := σ) h).mono (.refl _) fun v H1 ⟨F1, ρ1, d, r1, l1, t1, h1⟩ => by
  cases e : ownL ρ1[i]? with
  | none => rw [e] at h1; exact False.elim h1
  | some ds0 =>
    rw [e] at h1
    obtain ⟨q, _, eσ, _⟩ := r1.atL e
    refine ⟨.ref q, eσ, F1, ρ1, r1, (Sst.bind (σ := σ) h1).mono (.refl _) fun y H2 ⟨F2, ρ2, k, r2, l2, t2, h2⟩ => ?_⟩
    cases e1 : ownL ρ2[i]? with
    | none => rw [e1] at h2; exact False.elim h2
    | some ds =>
      rw [e1] at h2
      obtain ⟨q', xs, eσ', fq, eH, tt, sl, hsl, eρ, ere⟩ := r2.atL e1
      rw [eσ] at eσ'
      cases eσ'
      cases t2 with
      | int j =>
        dsimp only at h2
        cases en : ixN ds.length j with
        | none => rw [en] at h2; exact False.elim h2
        | some n =>
          rw [en] at h2
          dsimp only at h2
          rw [ere] at h2
          refine ⟨q, xs, j, n, rfl, rfl, eH, by rw [tt.length]; exact en, h2 σ F2 _ ?_ (.refl _)⟩
          exact r2.extB hsl eρ eσ (extB_upd r2.sub fq eH) ⟨_, upd_same, tt.set (t1.le l2) n⟩
      | _ => exact False.elim h2⟩
/-- found.append(e) -/
def M.app (i : Nat) (fe : M D) : M Out := fun ρ => match ownL ρ[i]? with
  | some _ => (fe.bind fun d ρ' => match ownL ρ'[i]? with
    | some ds => if ds.length < 16777216 then .ok .nx (ρ'.set i (reSl (.lst (ds ++ [d])) ρ'[i]?)) else .no
    | none => .no) ρ
  | none => .no
theorem ds_app {apos cpos : Pos} (hN : X.N[i]? = some x) (hv : Vis X.env.scope x) (he : DE X c e fe) (hd : (x == ("__debug__" : Str)) = false := by decide) (hcd : (x == ("__classdict__" : Str)) = false := by decide)
    (hpe : ∀ {t : TA}, PA X [e] t → PE X (.Call (.Attribute (.Name x p) "append" apos) [e] [] cpos) (tBM X.K "list" rAppend (tVar i) t) := by exact fun ha => pe_bm PySem.F.plainAttrs_list PySem.F.slot_list_append PySem.F.type_list_append mt_append (pe_var (by assumption) (by assumption) (by assumption) (by assumption)) ha)
    (hst : starEach [e] X.env = (false, eval e X.env) :: starEach [] X.env := by rfl) (hs : swapsWith (.Call (.Attribute (.Name x p) "append" apos) [e] [] cpos) none pos.line X.env = pure false := by rfl) :
    DS X c (.Expr (.Call (.Attribute (.Name x p) "append" apos) [e] [] cpos) pos) (M.app i fe) := PSw (ps_expr (hpe (pa_cons he pa_nil hst)) hs) fun E σ H ⟨F, ρ, rr, h⟩ => by
  unfold M.app at h
  cases e : ownL ρ[i]? with
  | none => rw [e] at h; exact False.elim h
  | some ds0 =>
    rw [e] at h
    obtain ⟨q, xs0, eσ, _, eH0, _⟩ := rr.atL e
    refine ⟨.ref q, eσ, .inl ⟨rfl, xs0, .inl (.inl eH0)⟩, F, ρ, rr, (Sst.bind (σ := σ) h).mono (.refl _) fun y H2 ⟨F2, ρ2, k, r2, l2, t2, h2⟩ => ?_⟩
    cases e1 : ownL ρ2[i]? with
    | none => rw [e1] at h2; exact False.elim h2
    | some ds =>
      rw [e1] at h2
      dsimp only at h2
      obtain ⟨q', xs, eσ', fq, eH, tt, sl, hsl, eρ, ere⟩ := r2.atL e1
      rw [eσ] at eσ'
      cases eσ'
      by_cases z : ds.length < 16777216
      · rw [if_pos z, ere] at h2
        refine ⟨q, xs, y, rfl, rfl, eH, by rw [line_eq, tt.length]; exact z, h2 σ F2 _ ?_ (.refl _)⟩
        exact r2.extB hsl eρ eσ (extB_upd r2.sub fq eH) ⟨_, upd_same, tt.append (.cons t2 .nil)⟩
      · rw [if_neg z] at h2; exact False.elim h2
/-- found[k] = e, an own dict -/
def putD (kvs : List (Key × D)) (k : Key) (v : D) : List (Key × D) :=
  if (kvs.any fun kv => decide (kv.1 = k)) = true then kvs.map (fun kv => if kv.1 = k then (kv.1, v) else kv) else kvs ++ [(k, v)]
theorem put_of {K : PySem.W.Frag} {mg : Str → Option Value} {k : Key} {v : V} {d : D} (t : Dt K mg F v d) : ∀ {kvs : List (Key × V)} {kds : List (Key × D)}, kvs.map (·.1) = kds.map (·.1) → Dts K mg F (kvs.map (·.2)) (kds.map (·.2)) →
    (putK kvs k v).map (·.1) = (putD kds k d).map (·.1) ∧ Dts K mg F ((putK kvs k v).map (·.2)) ((putD kds k d).map (·.2)) := by
  intro kvs kds hk tt
  have ha : (kvs.any fun kv => decide (kv.1 = k)) = kds.any fun kv => decide (kv.1 = k) := by
    have q1 : (kvs.any fun kv => decide (kv.1 = k)) = (kvs.map (·.1)).any fun x => decide (x = k) := by rw [List.any_map]; rfl
    have q2 : (kds.any fun kv => decide (kv.1 = k)) = (kds.map (·.1)).any fun x => decide (x = k) := by rw [List.any_map]; rfl
    rw [q1, q2, hk]
  unfold putK putD
  rw [ha]
  by_cases z : (kds.any fun kv => decide (kv.1 = k)) = true
  · rw [if_pos z, if_pos z]
    clear ha z
    induction kvs generalizing kds with
    | nil => cases kds with
      | nil => exact ⟨rfl, .nil⟩
      | cons _ _ => cases hk
    | cons kv kvs ih =>
      cases kds with
      | nil => cases hk
      | cons kd kds =>
        obtain ⟨k1, v1⟩ := kv
        obtain ⟨k2, d2⟩ := kd
        simp only [List.map_cons, List.cons.injEq] at hk
        obtain ⟨e1, e2⟩ := hk
        cases tt with
        | cons t1 t2 =>
          obtain ⟨i1, i2⟩ := ih e2 t2
          subst e1
          by_cases q : k1 = k
          · simp only [List.map_cons, if_pos q]
            exact ⟨by rw [i1], .cons t i2⟩
          · simp only [List.map_cons, if_neg q]
            exact ⟨by rw [i1], .cons t1 i2⟩
  · rw [if_neg z, if_neg z]
    simp only [List.map_append, List.map_cons, List.map_nil]
    exact ⟨by rw [hk], tt.append (.cons t .nil)⟩
def M.putK (i : Nat) (fv fk : M D) : M Out := fv.bind fun v ρ => match ownK ρ[i]? with
  | some _ => (fk.bind fun k ρ' => match ownK ρ'[i]?, k.key with
    | some ds, some k => if ds.length < 16777216 then .ok .nx (ρ'.set i (reSl (.dct (putD ds k v)) ρ'[i]?)) else .no
    | _, _ => .no) ρ
  | none => .no
theorem ds_putK {pos' : Pos} {n : Nat} (hr : Room n X.A) (hN : X.N[i]? = some x) (hv : Vis X.env.scope x) (he : DE X c e fe) (hb : DE X c b fb) (hs : swapsWith e (some (.Subscript (.Name x p) b pos')) pos.line X.env = pure false := by rfl) (hd : (x == ("__debug__" : Str)) = false := by decide) (hcd : (x == ("__classdict__" : Str)) = false := by decide) :
    DS X c (.Assign [.Subscript (.Name x p) b pos'] e pos) (M.putK i fe fb) := PSw (ps_dput (hu_of hr) (pe_var hN hv hd hcd) hb he hs) fun E σ H ⟨F, ρ, rr, h⟩ => ⟨F, ρ, rr, (Sst.bind (σ := σ) h).mono (.refl _) fun v H1 ⟨F1, ρ1, d, r1, l1, t1, h1⟩ => by
  cases e : ownK ρ1[i]? with
  | none => rw [e] at h1; exact False.elim h1
  | some ds0 =>
    rw [e] at h1
    obtain ⟨q, _, eσ, _⟩ := r1.atK e
    refine ⟨.ref q, eσ, F1, ρ1, r1, (Sst.bind (σ := σ) h1).mono (.refl _) fun y H2 ⟨F2, ρ2, k, r2, l2, t2, h2⟩ => ?_⟩
    cases e1 : ownK ρ2[i]? with
    | none => rw [e1] at h2; exact False.elim h2
    | some ds =>
      rw [e1] at h2
      obtain ⟨q', xs, eσ', fq, eH, ek, tt, sl, hsl, eρ, ere⟩ := r2.atK e1
      rw [eσ] at eσ'
      cases eσ'
      cases ekk : k.key with
      | none => rw [ekk] at h2; exact False.elim h2
      | some kk =>
        rw [ekk] at h2
        dsimp only at h2
        have ey := t2.key ekk
        subst ey
        by_cases z : ds.length < 16777216
        · rw [if_pos z, ere] at h2
          have hl : xs.length < sizeLine := by
            have := congrArg List.length ek
            rw [List.length_map, List.length_map] at this
            rw [line_eq, this]; exact z
          refine ⟨q, _, rfl, DPut.k (k := kk) eH hl, h2 σ F2 _ ?_ (.refl _)⟩
          obtain ⟨i1, i2⟩ := put_of (k := kk) (t1.le l2) ek tt
          exact r2.extB hsl eρ eσ (extB_upd r2.sub fq eH) ⟨_, upd_same, i1, i2⟩
        · rw [if_neg z] at h2; exact False.elim h2⟩

/-! ### f(tub, ..): a def that changes the own list it is handed -/
def M.callO (i n : Nat) (f : D → List D → Res (D × D)) (fs : M (List D)) : M D := fun ρ => match ownL ρ[i]? with
  | some _ => (fs.bind fun ds ρ' => match ownL ρ'[i]? with
    | some t => if ds.length + 1 = n then match f (.lst t) ds with
        | .ok (d, t') => .ok d (ρ'.set i (reSl t' ρ'[i]?))
        | _ => .no
      else .no
    | none => .no) ρ
  | none => .no
theorem de_callO {k n : Nat} {f : Addr} {fd : FuncData} {ps : List Str} {fn : D → List D → Res (D × D)} {y : Str} {py : Pos} (fx : Fit X c) (Fn : FnOk X.prog X.w X.K X.mg X.base (L2.CX X.prog X.w) k f fd ps (spB X.K X.mg c.T n fn)) (hr : Room k X.A) (hg : Gl X x) (hm : X.mg x = some (.ref f)) (hk : PySem.W.keepIn X.K (.ref f) = true) (hb : Binds X.K fd ps [])
    (hN : X.N[i]? = some y) (hv : Vis X.env.scope y) (ha : DA X c es fs) (hdb : (x == ("__debug__" : Str)) = false := by decide) (hd : (y == ("__debug__" : Str)) = false := by decide) (hcd : (y == ("__classdict__" : Str)) = false := by decide)
    (he : starEach (.Name y py :: es) X.env = (false, eval (.Name y py) X.env) :: starEach es X.env := by rfl) (hpl : (backTo pos (starEach es X.env)).any (·.1) = false := by rfl) :
    DE X c (.Call (.Name x p) (.Name y py :: es) [] pos) (M.callO i n fn fs) :=
  PEw (pe_callS Fn hr hg hm hk hb (fun σ => passAt fx.tk σ) (pa_cons (pe_var hN hv hd hcd) ha he) hdb he hpl) fun σ H Q ⟨F, ρ, rr, h⟩ => by
  unfold M.callO at h
  cases e : ownL ρ[i]? with
  | none => rw [e] at h; exact False.elim h
  | some ds0 =>
    rw [e] at h
    obtain ⟨q, _, eσ, _⟩ := rr.atL e
    refine ⟨.ref q, eσ, F, ρ, rr, (Pst.bindA h).mono (.refl _) fun ws H1 ⟨F1, ρ1, ds, r1, l1, t1, h1⟩ => ?_⟩
    cases e1 : ownL ρ1[i]? with
    | none => rw [e1] at h1; exact False.elim h1
    | some t =>
      rw [e1] at h1
      dsimp only at h1
      obtain ⟨q', xs, eσ', fq, eH, tt, sl, hsl, eρ, ere⟩ := r1.atL e1
      rw [eσ] at eσ'
      cases eσ'
      by_cases z : ds.length + 1 = n
      · rw [if_pos z] at h1
        refine ⟨F1, q, .lst t, ws, ds, rfl, ⟨r1.tab, r1.ft, r1.sub⟩, fq, ⟨xs, eH, by rw [fx.k, fx.mg]; exact tt⟩, by rw [fx.k, fx.mg]; exact t1, z, ?_⟩
        rw [fx.k, fx.mg]
        cases e2 : fn (.lst t) ds with
        | no => rw [e2] at h1; exact False.elim h1
        | er _ _ => rw [e2] at h1; exact False.elim h1
        | ok o =>
          obtain ⟨d, t'⟩ := o
          rw [e2] at h1
          dsimp only at h1
          rw [ere] at h1
          exact fun v F' H' ex ow dv => h1 v F' H' (r1.extB hsl eρ eσ ex ow) (fun a o e => by rw [ex.old a (by rw [r1.sub a o e]; exact fun z => by cases z)]; exact e) dv
      · rw [if_neg z] at h1; exact False.elim h1
end
end DL

set_option Elab.async false
set_option linter.all false
set_option maxRecDepth 100000
set_option maxHeartbeats 4000000
/-! DLA: attributes, properties, instances made, own errors raised. -/
namespace DL
open PySem PySem.Spec PyProof.Rows L2
section
variable {X : Cx} {c : Fc} {F H : Hp} {σ : L2.St} {ρ : Sls} {a b e o : Expr} {fa fb fe : M D} {es : List Expr} {fs : M (List D)} {pos p p1 p2 : Pos} {i : Nat} {x f cn : Str} {C : Addr}

/-! ### attributes -/
theorem Dts.lookup {K : PySem.W.Frag} {mg : Str → Option Value} {F : Hp} {f : Str} {d : D} : ∀ {fs : List (Str × V)} {ds : List (Str × D)}, fs.map (·.1) = ds.map (·.1) → Dts K mg F (fs.map (·.2)) (ds.map (·.2)) → ds.lookup f = some d → ∃ v, fs.lookup f = some v ∧ Dt K mg F v d := by
  intro fs
  induction fs with
  | nil => intro ds k t e; cases ds with
    | nil => cases e
    | cons _ _ => cases k
  | cons p fs ih =>
    intro ds k t e
    cases ds with
    | nil => cases k
    | cons q ds =>
      obtain ⟨g, v⟩ := p
      obtain ⟨g', d'⟩ := q
      simp only [List.map_cons, List.cons.injEq] at k
      obtain ⟨k1, k2⟩ := k
      subst k1
      cases t with
      | cons t1 t2 =>
        rw [lookup_put]
        have e2 : (if f = g then some d' else ds.lookup f) = some d := by
          by_cases z : f = g
          · subst z
            simp [List.lookup] at e ⊢
            exact e
          · have z' : (f == g) = false := by simpa using z
            simp [List.lookup, z'] at e
            rw [if_neg z]; exact e
        by_cases z : f = g
        · rw [if_pos z] at e2 ⊢
          cases e2
          exact ⟨v, rfl, t1⟩
        · rw [if_neg z] at e2 ⊢
          exact ih k2 t2 e2
/-- e.f, an attribute of an instance of the class cn -/
def M.fld (cn : Str) (fa : M D) (f : Str) : M D := fa.bind fun d => match d with
  | .ob c fs => if c = cn then M.of (fs.lookup f) else M.no
  | _ => M.no
theorem de_fld (fx : Fit X c) (hC : X.mg cn = some (.ref C)) (cl : Cls X.K C) (na : NoAttr X.K C f) (ha : DE X c a fa) (hb : attributeBase a f X.env (eval a X.env) = eval a X.env := by rfl) : DE X c (.Attribute a f pos) (M.fld cn fa f) :=
  PEw (pe_fld ha hb) fun σ H Q ⟨F, ρ, rr, h⟩ => ⟨F, ρ, rr, (Pst.bind h).mono (.refl _) fun v H1 ⟨F1, ρ1, d, r1, l1, t1, h1⟩ => by
    cases t1 with
    | @ob a' C' dx c' fs' ds' m e k t =>
      dsimp only at h1
      by_cases z : c' = cn
      · subst z
        rw [if_pos rfl] at h1
        rw [fx.mg] at hC
        rw [hC] at m
        cases m
        obtain ⟨w, ew, h1⟩ := Pst.of (o := ds'.lookup f) h1
        obtain ⟨u, eu, du⟩ := Dts.lookup k t ew
        exact ⟨_, C, dx, fs', u, rfl, r1.sub _ _ e, cl, na, eu, h1.ret r1 du⟩
      · rw [if_neg z] at h1; exact False.elim h1
    | _ => exact False.elim h1⟩
/-- the object that a slot's own instance is -/
def ownI (cn : Str) : Option Sl → Option (List (Str × D))
  | some (.ow (.ob c fs)) => if c = cn then some fs else none
  | some (.bo (.ob c fs)) => if c = cn then some fs else none
  | _ => none
theorem R.atI {ds : List (Str × D)} (r : R c F H σ ρ) (h : ownI cn ρ[i]? = some ds) : ∃ q C dx fs, σ[i]? = some (some (.ref q)) ∧ F q = none ∧ c.mg cn = some (.ref C) ∧ H q = some (.ins C dx fs) ∧ fs.map (·.1) = ds.map (·.1) ∧ c.Dts F (fs.map (·.2)) (ds.map (·.2)) ∧ ∃ sl, (sl = Sl.ow ∨ sl = Sl.bo) ∧ ρ[i]? = some (sl (.ob cn ds)) ∧ ∀ d, reSl d ρ[i]? = sl d := by
  have x := r.sl i
  cases e : ρ[i]? with
  | none => rw [e] at h; cases h
  | some s =>
    rw [e] at h x
    cases s with
    | un => cases h
    | im d => cases h
    | ow d =>
      cases d with
      | ob c' fs' =>
        unfold ownI at h
        dsimp only at h
        by_cases z : c' = cn
        · rw [if_pos z] at h
          cases h
          subst z
          obtain ⟨q, e1, e2, e3, C, dx, fs, m, e4, e5, e6⟩ := x
          exact ⟨q, C, dx, fs, e1, e2, m, e4, e5, e6, .ow, .inl rfl, rfl, fun _ => rfl⟩
        · rw [if_neg z] at h; cases h
      | _ => cases h
    | bo d =>
      cases d with
      | ob c' fs' =>
        unfold ownI at h
        dsimp only at h
        by_cases z : c' = cn
        · rw [if_pos z] at h
          cases h
          subst z
          obtain ⟨q, e1, e2, e3, C, dx, fs, m, e4, e5, e6⟩ := x
          exact ⟨q, C, dx, fs, e1, e2, m, e4, e5, e6, .bo, .inr rfl, rfl, fun _ => rfl⟩
        · rw [if_neg z] at h; cases h
      | _ => cases h
/-- self.f, read while self may still change -/
def M.fldO (cn : Str) (i : Nat) (f : Str) : M D := fun ρ => match ownI cn ρ[i]? with
  | some ds => M.of (ds.lookup f) ρ
  | none => .no
theorem de_fldO (fx : Fit X c) (hC : X.mg cn = some (.ref C)) (cl : Cls X.K C) (na : NoAttr X.K C f) (hN : X.N[i]? = some x) (hv : Vis X.env.scope x) (hd : (x == ("__debug__" : Str)) = false := by decide) (hcd : (x == ("__classdict__" : Str)) = false := by decide)
    (hb : attributeBase (.Name x p) f X.env (eval (.Name x p) X.env) = eval (.Name x p) X.env := by rfl) : DE X c (.Attribute (.Name x p) f pos) (M.fldO cn i f) :=
  PEw (pe_fld (pe_var hN hv hd hcd) hb) fun σ H Q ⟨F, ρ, rr, h⟩ => by
    unfold M.fldO at h
    cases e : ownI cn ρ[i]? with
    | none => rw [e] at h; exact False.elim h
    | some ds =>
      rw [e] at h
      obtain ⟨w, ew, h⟩ := Pst.of (o := ds.lookup f) h
      obtain ⟨q, C', dx, fs, eσ, fq, m, eH, k, t, _⟩ := rr.atI e
      rw [fx.mg, m] at hC
      cases hC
      obtain ⟨u, eu, du⟩ := Dts.lookup k t ew
      exact ⟨.ref q, eσ, q, C, dx, fs, u, rfl, eH, cl, na, eu, h.ret rr du⟩
/-- self.f = e -/
def putFD (f : Str) (v : D) : List (Str × D) → List (Str × D)
  | [] => [(f, v)]
  | (g, x) :: r => if g = f then (g, v) :: r else (g, x) :: putFD f v r
theorem putF_of {K : PySem.W.Frag} {mg : Str → Option Value} {v : V} {d : D} (t : Dt K mg F v d) : ∀ {fs : List (Str × V)} {ds : List (Str × D)}, fs.map (·.1) = ds.map (·.1) → Dts K mg F (fs.map (·.2)) (ds.map (·.2)) →
    (putF f v fs).map (·.1) = (putFD f d ds).map (·.1) ∧ Dts K mg F ((putF f v fs).map (·.2)) ((putFD f d ds).map (·.2)) := by
  intro fs
  induction fs with
  | nil => intro ds k tt; cases ds with
    | nil => exact ⟨rfl, .cons t .nil⟩
    | cons _ _ => cases k
  | cons p fs ih =>
    intro ds k tt
    cases ds with
    | nil => cases k
    | cons q ds =>
      obtain ⟨g, v'⟩ := p
      obtain ⟨g', d'⟩ := q
      simp only [List.map_cons, List.cons.injEq] at k
      obtain ⟨k1, k2⟩ := k
      subst k1
      cases tt with
      | cons t1 t2 =>
        unfold putF putFD
        by_cases z : g = f
        · rw [if_pos z, if_pos z]
          exact ⟨by simp only [List.map_cons]; rw [k2], .cons t t2⟩
        · rw [if_neg z, if_neg z]
          obtain ⟨i1, i2⟩ := ih k2 t2
          exact ⟨by simp only [List.map_cons]; rw [i1], .cons t1 i2⟩
def M.setF (cn : Str) (i : Nat) (f : Str) (fe : M D) : M Out := fe.bind fun d ρ => match ownI cn ρ[i]? with
  | some ds => if ds.length < 1000 then .ok .nx (ρ.set i (reSl (.ob cn (putFD f d ds)) ρ[i]?)) else .no
  | none => .no
theorem ds_setF {p' : Pos} (fx : Fit X c) (hC : X.mg cn = some (.ref C)) (cl : Cls X.K C) (na : NoAttr X.K C f) (hN : X.N[i]? = some x) (hv : Vis X.env.scope x) (he : DE X c e fe) (hd : (x == ("__debug__" : Str)) = false := by decide) (hcd : (x == ("__classdict__" : Str)) = false := by decide)
    (hs : swapsWith e (some (.Attribute (.Name x p) f p')) pos.line X.env = pure false := by rfl) : DS X c (.Assign [.Attribute (.Name x p) f p'] e pos) (M.setF cn i f fe) :=
  PSw (ps_fld (pe_var hN hv hd hcd) he hs) fun E σ H ⟨F, ρ, rr, h⟩ => ⟨F, ρ, rr, (Sst.bind (σ := σ) h).mono (.refl _) fun v H1 ⟨F1, ρ1, d, r1, l1, t1, h1⟩ => by
    cases e : ownI cn ρ1[i]? with
    | none => rw [e] at h1; exact False.elim h1
    | some ds =>
      rw [e] at h1
      dsimp only at h1
      obtain ⟨q, C', dx, fs, eσ, fq, m, eH, k, t, sl, hsl, eρ, ere⟩ := r1.atI e
      rw [fx.mg, m] at hC
      cases hC
      by_cases z : ds.length < 1000
      · rw [if_pos z, ere] at h1
        obtain ⟨i1, i2⟩ := putF_of (f := f) t1 k t
        refine ⟨.ref q, eσ, q, C, dx, fs, rfl, eH, cl, na, ?_, h1 σ F1 _ (r1.extB hsl eρ eσ (extB_upd r1.sub fq eH) ⟨C, dx, _, m, upd_same, i1, i2⟩) (.refl _)⟩
        have := congrArg List.length k
        rw [List.length_map, List.length_map] at this
        rw [this]; exact z
      · rw [if_neg z] at h1; exact False.elim h1⟩

/-! ### properties -/
theorem passNo (fx : Fit X c) : Passes (L2.CX X.prog X.w) X (fun cls d H => ∀ σ, c.W cls d σ H) := fun pins σ H s e s' I z => fx.tk e s' (XE.of_call I (fun _ _ _ h => h σ) z)

/-! ### instances made -/
def M.mk (n : Nat) (cn : Str) (fn : D → List D → Res (D × D)) (fs : M (List D)) : M D := fs.bind fun ds ρ => if ds.length + 1 = n then match fn (.ob cn []) ds with
  | .ok (.non, .ob k gs) => .ok (.ob k gs) ρ
  | .er k fs => .er k fs ρ
  | _ => .no
  else .no
theorem mk_end {n : Nat} {fn : D → List D → Res (D × D)} {x dx : Addr} {ws : List V} {ds : List D} {Q : VK} (fx : Fit X c) (rr : R c F H σ ρ) (hx : H x = none) (hdx : H dx = none) (hne : dx ≠ x) (m : c.mg cn = some (.ref C)) (tt : c.Dts F ws ds) (z : ds.length + 1 = n)
    (h : Pst c σ F ((match fn (.ob cn []) ds with | .ok (.non, .ob k gs) => fun ρ => Ret.ok (.ob k gs) ρ | .er k fs => fun ρ => .er k fs ρ | _ => fun _ => .no : M D) ρ) Q) :
    spB c.K c.mg c.T n fn (.ref x :: ws) (upd (upd H dx (.own x)) x (.ins C dx [])) (fun v H2 => v = .non ∧ Q (.ref x) H2) (fun cls d H => ∀ σ, c.W cls d σ H) := by
  have nF : ∀ {b}, H b = none → F b = none := fun {b} e => by
    cases q : F b with
    | none => rfl
    | some o => rw [rr.sub b o q] at e; cases e
  have up : ∀ {b : Addr} {o : HO}, H b = some o → upd (upd H dx (.own x)) x (.ins C dx []) b = some o := fun {b o} e => by
    rw [upd_ne (fun q => by rw [q, hx] at e; cases e), upd_ne (fun q => by rw [q, hdx] at e; cases e)]; exact e
  have ext : ∀ {F' H' : Hp}, ExtB c.T x F (upd (upd H dx (.own x)) x (.ins C dx [])) F' H' → (∀ b o, NoT c.T b → H b = some o → H' b = some o) ∧ (∀ b, H b ≠ none → F' b = F b) ∧ (∀ b, H b ≠ none → H' b ≠ none) ∧ LamX.Tabs c.T H' := fun {F' H'} e =>
    ⟨fun b o n q => e.h b o n (fun z => by rw [z, hx] at q; cases q) (up q), fun b q => by
      obtain ⟨o, q'⟩ := ne_some q
      exact e.old b (some_ne (up q')), fun b q => by
      obtain ⟨o, q'⟩ := ne_some q
      exact e.dm b (some_ne (up q')), e.tab (rr.tab.ext fun b o q => up q)⟩
  refine ⟨F, x, .ob cn [], ws, ds, rfl, ⟨rr.tab.ext fun b o q => up q, rr.ft, fun b o q => up (rr.sub b o q)⟩, nF hx, ⟨C, dx, [], m, upd_same, rfl, .nil⟩, tt, z, ?_⟩
  cases e : fn (.ob cn []) ds with
  | no => rw [e] at h; exact False.elim h
  | er k fs =>
    rw [e] at h
    intro C' dd F' H' fv mk ex e1 e2 e3 σ'
    obtain ⟨x1, x2, x3, x4⟩ := ext ex
    exact fx.wσ _ _ _ _ _ (h C' dd F' H' fv mk (rr.ext ⟨x1, fun _ => x4, x3, x2, ex.sub⟩) (fun b o q => by rw [x2 b (by rw [rr.sub b o q]; exact fun z => by cases z)]; exact q) e1 e2 e3)
  | ok r =>
    obtain ⟨d, t⟩ := r
    rw [e] at h
    cases d with
    | non =>
     cases t with
     | ob k2 gs =>
      intro v F' H' ex ow dv
      cases dv
      obtain ⟨x1, x2, x3, x4⟩ := ext ex
      obtain ⟨o, eo⟩ := ow.there
      have fx' : F' x = none := by
        cases q : F' x with
        | none => rfl
        | some u =>
          have q2 := ex.old x (by rw [upd_same]; exact fun z => by cases z)
          rw [q2, nF hx] at q; cases q
      refine ⟨rfl, h (.ref x) (upd F' x o) H' (rr.ext ⟨x1, fun _ => x4, x3, fun b q => ?_, fun b u q => ?_⟩) (fun b u q => ?_) (ow.dt (fun ks z => by cases z) eo fx')⟩
      · rw [upd_ne (fun z => q (by rw [z]; exact hx))]; exact x2 b q
      · by_cases zb : b = x
        · subst zb; rw [upd_same] at q; cases q; exact eo
        · rw [upd_ne zb] at q; exact ex.sub b u q
      · have hb := rr.sub b u q
        rw [upd_ne (fun z => by rw [z, hx] at hb; cases hb), x2 b (by rw [hb]; exact fun z => by cases z)]; exact q
     | _ => exact False.elim h
    | _ => exact False.elim h
theorem mk_endR {n : Nat} {fn : D → List D → Res (D × D)} {x dx : Addr} {ws : List V} {ds : List D} {Q : VK} (fx : Fit X c) (rr : R c F H σ ρ) (hx : H x = none) (hdx : H dx = none) (hne : dx ≠ x) (m : c.mg cn = some (.ref C)) (tt : c.Dts F ws ds) (z : ds.length + 1 = n)
    (h1 : Pst c σ F (match fn (.ob cn []) ds with | .ok (.non, .ob k gs) => .ok (.ob k gs) ρ | .er k fs => .er k fs ρ | _ => .no) Q) :
    spB c.K c.mg c.T n fn (.ref x :: ws) (upd (upd H dx (.own x)) x (.ins C dx [])) (fun v H2 => v = .non ∧ Q (.ref x) H2) (fun cls d H => ∀ σ, c.W cls d σ H) := by
  refine mk_end fx rr hx hdx hne m tt z ?_
  cases e : fn (.ob cn []) ds with
  | no => rw [e] at h1; exact h1
  | er _ _ => rw [e] at h1; exact h1
  | ok r => rw [e] at h1; obtain ⟨d, t⟩ := r; cases d <;> first | exact h1 | (cases t <;> exact h1)
theorem de_mk {k n : Nat} {fI : Addr} {fd : FuncData} {ps : List Str} {fn : D → List D → Res (D × D)} (fx : Fit X c) (Mk' : Mk X.K C fI) (Fn : FnOk X.prog X.w X.K X.mg X.base (L2.CX X.prog X.w) k fI fd ps (spB X.K X.mg c.T n fn)) (hr : Room (k + 1) X.A) (hg : Gl X cn) (hm : X.mg cn = some (.ref C)) (hb : Binds X.K fd ps [])
    (ha : DA X c (a :: es) fs) (hdb : (cn == ("__debug__" : Str)) = false := by decide) (he : starEach (a :: es) X.env = (false, eval a X.env) :: starEach es X.env := by rfl) (hpl : (backTo pos (starEach es X.env)).any (·.1) = false := by rfl) :
    DE X c (.Call (.Name cn p) (a :: es) [] pos) (M.mk n cn fn fs) :=
  PEw (pe_make Mk' Fn hr hg hm hb .nil (passNo fx) ha hdb he hpl) fun σ H Q ⟨F, ρ, rr, h⟩ => ⟨F, ρ, rr, (Pst.bindA h).mono (.refl _) fun vs H1 ⟨F1, ρ1, ds, r1, l1, t1, h1⟩ => by
    intro x dx n1 n2 n3
    rw [fx.mg] at hm
    by_cases z : ds.length + 1 = n
    · rw [if_pos z] at h1
      rw [List.append_nil, fx.k, fx.mg]
      refine mk_end fx r1 n1 n2 n3 hm t1 z ?_
      cases e : fn (.ob cn []) ds with
      | no => rw [e] at h1; exact h1
      | er _ _ => rw [e] at h1; exact h1
      | ok r => rw [e] at h1; obtain ⟨d, t⟩ := r; cases d <;> first | exact h1 | (cases t <;> exact h1)
    · rw [if_neg z] at h1; exact False.elim h1⟩

/-! ### own errors with one attribute, raised -/
/-- __init__(self, g): self.g = g -/
def spI (K : PySem.W.Frag) (g : Str) : Sp := fun vs H Q _ => ∃ a y, ∃ C : Addr, vs = [.ref a, y] ∧ OexC K C ∧ PySem.W.findIn K (.ref C) g = some none ∧ H a = some (exo a C none) ∧
  ∀ dx, H dx = none → dx ≠ a → Q .non (upd (upd H dx (exd dx [(g, y)])) a (exo a C (some dx)))
theorem fn_spI {P : Program} {w : World} {K : PySem.W.Frag} {mg : Str → Option Value} {base : Heap} {x qual g : Str} {st : Stmt} {f : Addr} {fd : FuncData} {k : Nat} {p1 p2 p3 p4 : Pos} (Fn : Fun K x qual st f fd) (S : FnScope ["self", g] ["self", g] (defScope st))
    (hb : defBody st = [.Assign [.Attribute (.Name "self" p1) g p2] (.Name g p3) p4]) (hs : (g == ("__debug__" : Str)) = false := by decide) (hc : (g == ("__classdict__" : Str)) = false := by decide) : FnOk P w K mg base (L2.CX P w) (k + 1) f fd ["self", g] (spI K g) := by
  refine Fn.okX S (fun vs H Q E ⟨a, y, C, ev, _⟩ => by rw [ev]; rfl) fun cdv A outer s H vs Q E hr ⟨a, y, C, ev, T, hno, ea, q⟩ => ?_
  subst ev
  rw [hb]
  have vis : ∀ z ∈ (["self", g] : List Str), Vis (defScope st) z := fun z hz => (S.par z hz).elim .inl fun h => .inr (.inl h)
  refine ⟨_, pss_one (ps_ost (pe_var (i := 0) rfl (vis _ (.head _)) (by decide) (by decide)) (pe_var (i := 1) rfl (vis _ (.tail _ (.head _))) hs hc)), ?_⟩
  exact ⟨y, rfl, .ref a, rfl, a, C, rfl, T, hno, .inl ⟨ea, fun dx n ne => q dx n ne⟩⟩
/-- raise cn(e) -/
def M.rai (cn g : Str) (fe : M D) : M Out := fe.bind fun d ρ => .er cn [(g, d)] ρ
theorem ds_rai {k : Nat} {g : Str} {fI : Addr} {fd : FuncData} (hcalm : X.calm = true) (T : OexC X.K C) (iC : PySem.W.findIn X.K (.ref C) "__init__" = some (some (.ref fI))) (tI : PySem.W.typeIn X.K (.ref fI) = some (.type "function")) (hno : PySem.W.findIn X.K (.ref C) g = some none)
    (fx : Fit X c) (Fn : FnOk X.prog X.w X.K X.mg X.base (L2.CX X.prog X.w) k fI fd ["self", g] (spI X.K g)) (hr : Room (k + 1) X.A) (hb : Binds X.K fd ["self", g] []) (hg : Gl X cn) (hm : X.mg cn = some (.ref C)) (he : DE X c e fe)
    (hdb : (cn == ("__debug__" : Str)) = false := by decide) (hst : starEach [e] X.env = (false, eval e X.env) :: starEach [] X.env := by rfl) :
    DS X c (.Raise (some (.Call (.Name cn p) [e] [] p2)) none pos) (M.rai cn g fe) :=
  PSw (ps_raise hcalm fx.tk (pmk_oex T iC tI Fn hr hb .nil (fun pins σ H s e s' I z => by
      refine fx.tk e s' (XE.of_call I (fun _ _ _ h => ?_) z); exact h.elim) hg hm (pa_cons he pa_nil hst) hdb hst)) fun E σ H ⟨F, ρ, rr, h⟩ => ⟨F, ρ, rr, (Sst.bind (σ := σ) h).mono (.refl _) fun v H1 ⟨F1, ρ1, d, r1, l1, t1, h1⟩ => by
    refine ⟨by simp, fun a ha => ⟨a, v, C, rfl, T, hno, upd_same, fun dx n ne => ⟨rfl, dx, [(g, v)], upd_same, ?_, ?_, ?_⟩⟩⟩
    · rw [upd_ne ne, upd_same]
    · rw [upd_ne ne] at n; exact n
    · rw [upd_ne ne] at n
      have e1 : upd (del (upd (upd (upd H1 a (exo a C none)) dx (exd dx [(g, v)])) a (exo a C (some dx))) a) dx (.xd [(g, v)]) = upd H1 dx (.xd [(g, v)]) := by
        funext b
        by_cases z : b = dx
        · rw [z, upd_same, upd_same]
        · rw [upd_ne z, upd_ne z]
          by_cases z2 : b = a
          · rw [z2, del_same, ha]
          · rw [del_ne z2, upd_ne z2, upd_ne z, upd_ne z2]
      rw [e1]
      exact h1 C dx σ _ _ [(g, v)] (by rw [← fx.mg]; exact hm) (r1.ext (.new r1.sub n)) ((Ext.new (T := c.T) r1.sub n).le r1.sub) upd_same rfl (.cons (t1.le ((Ext.new (T := c.T) r1.sub n).le r1.sub)) .nil)⟩
end
end DL

set_option Elab.async false
set_option linter.all false
set_option maxRecDepth 100000
set_option maxHeartbeats 4000000
/-! DLB: properties, class methods, classes held by a name, keyword calls. -/
namespace DL
open PySem PySem.Spec PyProof.Rows L2
section
variable {X : Cx} {c : Fc} {F H : Hp} {σ : L2.St} {ρ : Sls} {a b e o : Expr} {fa fb fe : M D} {es : List Expr} {fs : M (List D)} {pos p apos : Pos} {i : Nat} {x f cn m : Str} {C g pa : Addr}

/-! ### properties -/
def okOf : Res D → M D
  | .ok d => M.ret d
  | _ => M.no
def M.prop (cn : Str) (fn : List D → Res D) (fa : M D) : M D := fa.bind fun d => match d with
  | .ob c fs => if c = cn then okOf (fn [.ob c fs]) else M.no
  | _ => M.no
theorem passF : Passes (L2.CX X.prog X.w) X (fun _ _ _ => False) := fun pins σ H s e s' I ⟨_, _, _, _, _, _, _, _, _, _, _, _, z⟩ => z.elim
theorem passFn : Passes (L2.CX X.prog X.w) X.nox (fun _ _ _ => False) := fun pins σ H s e s' I ⟨_, _, _, _, _, _, _, _, _, _, _, _, z⟩ => z.elim
/-- an end that is no error -/
theorem end_ok {K : PySem.W.Frag} {mg : Str → Option Value} {Q : VK} {E : XK} {r : Res D} (fx : K = c.K) (fm : mg = c.mg) (rr : R c F H σ ρ) (h : Pst c σ F (okOf r ρ) Q) : endD K mg c.T F H r Q E := by
  subst fx fm
  cases r with
  | ok d => exact fun v F' H' e t => h v F' H' (rr.ext e) (e.le rr.sub) t
  | er k fs => exact h.elim
  | no => exact h.elim
theorem de_prop {k : Nat} {fd : FuncData} {ps : List Str} {fn : List D → Res D} (fx : Fit X c) (hC : X.mg cn = some (.ref C)) (cl : Cls X.K C) (hp : PropOf X.K C f pa g) (Fn : FnOk X.prog X.w X.K X.mg X.base (L2.CX X.prog X.w) k g fd ps (spD X.K X.mg c.T 1 fn)) (hr : Room (k + 1) X.A) (hb : Binds X.K fd ps [])
    (ha : DE X c a fa) (hab : attributeBase a f X.env (eval a X.env) = eval a X.env := by rfl) : DE X c (.Attribute a f pos) (M.prop cn fn fa) :=
  PEw (pe_prop (E := fun _ _ _ => False) ha cl hp Fn hr hb .nil passFn hab) fun σ H Q ⟨F, ρ, rr, h⟩ => ⟨F, ρ, rr, (Pst.bind h).mono (.refl _) fun v H1 ⟨F1, ρ1, d, r1, l1, t1, h1⟩ => by
    cases t1 with
    | @ob a' C' dx c' fs' ds' m e k t =>
      dsimp only at h1
      by_cases z : c' = cn
      · subst z
        rw [if_pos rfl] at h1
        rw [fx.mg] at hC
        rw [hC] at m
        cases m
        exact ⟨_, dx, fs', rfl, r1.sub _ _ e, F1, _, ⟨r1.tab, r1.ft, r1.sub⟩, .cons (.ob (by rw [fx.mg]; exact hC) e k (by rw [fx.k, fx.mg]; exact t)) .nil, rfl, end_ok fx.k fx.mg r1 h1⟩
      · rw [if_neg z] at h1; exact False.elim h1
    | _ => exact False.elim h1⟩

/-! ### a class method: C.m(..) -/
/-- the promise of a def, taken at all slots -/
theorem endN {K : PySem.W.Frag} {mg : Str → Option Value} {Q : VK} {r : Res D} (fx : Fit X c) (hk : K = c.K) (hm : mg = c.mg) (rr : R c F H σ ρ) (h : Pst c σ F (M.res r ρ) Q) : endD K mg c.T F H r Q (fun cls d H => ∀ σ, c.W cls d σ H) := by
  subst hk hm
  cases r with
  | ok d => exact fun v F' H' e t => h v F' H' (rr.ext e) (e.le rr.sub) t
  | er k fs => exact fun C dd F' H' fv m e e1 e2 e3 σ' => fx.wσ _ _ _ _ _ (h C dd F' H' fv m (rr.ext e) (e.le rr.sub) e1 e2 e3)
  | no => exact h.elim
theorem de_cmeth {k n : Nat} {mc : Value} {fd : FuncData} {ps : List Str} {fn : List D → Res D} {pl : Sem Bool} (fx : Fit X c) (hg : Gl X cn) (hC : X.mg cn = some (.ref C)) (r : ClX.CRead X.K C mc) (cm : ClX.CMet X.K C mc m pa g) (Fn : FnOk X.prog X.w X.K X.mg X.base (L2.CX X.prog X.w) k g fd ps (spD X.K X.mg c.T n fn)) (hr : Room k X.A) (hb : Binds X.K fd ps [])
    (ha : DA X c (a :: es) fs) (hdb : (cn == ("__debug__" : Str)) = false := by decide) (hst : starEach (a :: es) X.env = (false, eval a X.env) :: starEach es X.env := by rfl) (hpl : (backTo pos (starEach es X.env)).any (·.1) = false := by rfl)
    (ht : eval (.Call (.Attribute (.Name cn p) m apos) (a :: es) [] pos) X.env = (do
      let ov ← eval (.Name cn p) X.env
      standAt apos.atName
      let (f, first) ← holding [ov] (getMethod ov m pl)
      callWith pos f first (backTo pos (starEach (a :: es) X.env)) (backToKw pos (keywordEach [] X.env))) := by rfl) :
    DE X c (.Call (.Attribute (.Name cn p) m apos) (a :: es) [] pos) (fs.bind fun ds => M.call n fn (.cl cn :: ds)) :=
  PEw (ClX.pe_cmeth (pl := pl) (pe_glob (v := .ref C) hg hC rfl hdb) r cm (Fn.raw hb .nil) hr (passNo fx) ha hst hpl ht) fun σ H Q ⟨F, ρ, rr, h⟩ => by
    have hC' := hC
    rw [fx.mg] at hC'
    refine ⟨rfl, F, ρ, rr, (Pst.bindA h).mono (.refl _) fun vs H1 ⟨F1, ρ1, ds, r1, l1, t1, h1⟩ => ?_⟩
    show spD X.K X.mg c.T n fn ((V.ref C :: vs) ++ []) H1 Q _
    rw [List.append_nil]
    obtain ⟨z, h1⟩ := Pst.grd (b := (D.cl cn :: ds).length = n) h1
    exact ⟨F1, .cl cn :: ds, ⟨r1.tab, r1.ft, r1.sub⟩, .cons (.cl (by rw [fx.mg]; exact hC')) (by rw [fx.k, fx.mg]; exact t1), z, endN fx fx.k fx.mg r1 h1⟩

/-! ### C(..), the class held by a name of the def -/
def tMakeL (i : Nat) (C : Addr) (sp : Sp) (E : XK) (t : TA) : TE := fun σ H Q => σ[i]? = some (some (.ref C)) ∧ tMake C sp [] E t σ H Q
theorem pe_makeL {CX : CXT} {k : Nat} {f : Addr} {fd : FuncData} {ps : List Str} {sp : Sp} {E : XK} {t : TA} (M : Mk X.K C f) (Fn : FnOk X.prog X.w X.K X.mg X.base CX k f fd ps sp) (hr : Room (k + 1) X.A) (hN : X.N[i]? = some x) (hv : Vis X.env.scope x) (hb : Binds X.K fd ps []) (hx : Passes CX X E) (ha : PA X (a :: es) t)
    (hdb : (x == ("__debug__" : Str)) = false := by decide) (hcd : (x == ("__classdict__" : Str)) = false := by decide)
    (he : starEach (a :: es) X.env = (false, eval a X.env) :: starEach es X.env := by rfl) (hpl : (backTo pos (starEach es X.env)).any (·.1) = false := by rfl) : PE X (.Call (.Name x p) (a :: es) [] pos) (tMakeL i C sp E t) :=
  ⟨fun pins s σ H Q I ⟨hs, ht⟩ => wpAny_Call_Name_kw (thn ((pe_var (pos := p) hN hv hdb hcd).run pins s σ H (fun v H1 => v = .ref C ∧ H1 = H) I ⟨.ref C, hs, rfl, rfl⟩) fun u s1 ⟨v, H1, I1, r1, q1⟩ => by
    obtain ⟨rfl, rfl⟩ := q1
    cases r1
    exact PySem.W.callWith_K (h₀ := X.base) I.ok.mod.kin M.kp (thn (ha.run pos pins s1 σ _ _ I1 ht) fun us s2 ⟨vs, H2, I2, r, q⟩ => ⟨I2.kIn, run_make M Fn hr hb .nil hx I2 r q⟩) he hpl)⟩
def M.mkL (i n : Nat) (cn : Str) (fn : D → List D → Res (D × D)) (fs : M (List D)) : M D := fun ρ => match ρ[i]? with
  | some (.im (.cl k)) => if k = cn then M.mk n cn fn fs ρ else .no
  | _ => .no
theorem de_mkL {k n : Nat} {fI : Addr} {fd : FuncData} {ps : List Str} {fn : D → List D → Res (D × D)} (fx : Fit X c) (Mk' : Mk X.K C fI) (Fn : FnOk X.prog X.w X.K X.mg X.base (L2.CX X.prog X.w) k fI fd ps (spB X.K X.mg c.T n fn)) (hr : Room (k + 1) X.A) (hm : X.mg cn = some (.ref C)) (hb : Binds X.K fd ps [])
    (hN : X.N[i]? = some x) (hv : Vis X.env.scope x) (ha : DA X c (a :: es) fs) (hdb : (x == ("__debug__" : Str)) = false := by decide) (hcd : (x == ("__classdict__" : Str)) = false := by decide)
    (he : starEach (a :: es) X.env = (false, eval a X.env) :: starEach es X.env := by rfl) (hpl : (backTo pos (starEach es X.env)).any (·.1) = false := by rfl) :
    DE X c (.Call (.Name x p) (a :: es) [] pos) (M.mkL i n cn fn fs) :=
  PEw (pe_makeL Mk' Fn hr hN hv hb (passNo fx) ha hdb hcd he hpl) fun σ H Q ⟨F, ρ, rr, h⟩ => by
    rw [fx.mg] at hm
    unfold M.mkL at h
    have sl := rr.sl i
    split at h
    · rename_i k' e
      rw [e] at sl
      by_cases zk : k' = cn
      · subst zk
        rw [if_pos rfl] at h
        obtain ⟨v, e1, t⟩ := sl
        cases t with
        | cl m =>
          rw [hm] at m
          cases m
          refine ⟨e1, F, ρ, rr, (Pst.bindA h).mono (.refl _) fun vs H1 ⟨F1, ρ1, ds, r1, l1, t1, h1⟩ => ?_⟩
          intro x dx n1 n2 n3
          by_cases z : ds.length + 1 = n
          · rw [if_pos z] at h1
            rw [List.append_nil, fx.k, fx.mg]
            exact mk_endR fx r1 n1 n2 n3 hm t1 z h1
          · rw [if_neg z] at h1; exact False.elim h1
      · rw [if_neg zk] at h; exact False.elim h
    · exact False.elim h
end
end DL

set_option Elab.async false
set_option linter.all false
set_option maxRecDepth 100000
set_option maxHeartbeats 4000000
/-! DLC: calls by keywords alone. -/
namespace DL
open PySem PySem.Spec PyProof.Rows L2
def pick {α : Type} (π : List Nat) (zs : List α) : List α := π.filterMap fun i => zs[i]?
section
variable {X : Cx} {c : Fc} {F H : Hp} {σ : L2.St} {ρ : Sls} {e : Expr} {fe : M D} {fs : M (List D)} {pos p kpos : Pos} {x cn : Str} {C : Addr} {kws : List Keyword} {π : List Nat} {nm : Option Str} {ks ps : List Str}
theorem pick_vals {zs : List V} {ws : List Value} (h : Vals zs ws) : ∀ π : List Nat, Vals (pick π zs) (pick π ws)
  | [] => .nil
  | i :: π => by
    unfold pick
    rw [List.filterMap_cons, List.filterMap_cons]
    have r := pick_vals h π
    unfold pick at r
    cases e : zs[i]? with
    | none =>
      have e2 : ws[i]? = none := by
        rw [List.getElem?_eq_none_iff] at e ⊢
        rw [← h.length]; exact e
      rw [e2]; exact r
    | some z =>
      obtain ⟨w, hw, rw'⟩ := h.get e
      rw [hw]; exact .cons rw' r
theorem pick_dts {K : PySem.W.Frag} {mg : Str → Option Value} {zs : List V} {ds : List D} (h : Dts K mg F zs ds) : ∀ π : List Nat, Dts K mg F (pick π zs) (pick π ds)
  | [] => .nil
  | i :: π => by
    unfold pick
    rw [List.filterMap_cons, List.filterMap_cons]
    have r := pick_dts h π
    unfold pick at r
    cases e : ds[i]? with
    | none =>
      have e2 : zs[i]? = none := by
        rw [List.getElem?_eq_none_iff] at e ⊢
        rw [h.length]; exact e
      rw [e2]; exact r
    | some d =>
      obtain ⟨z, hz, dt⟩ := h.get e
      rw [hz]; exact .cons dt r
/-- the keywords' values, in the order written -/
def DK (X : Cx) (c : Fc) (kws : List Keyword) (f : M (List D)) : Prop := PK X kws (tAs c f)
theorem dk_nil : DK X c [] (M.ret []) := ⟨fun pos pins s σ H Q I ⟨F, ρ, r, h⟩ => pk_nil.run pos pins s σ H Q I (h [] F H r (.refl _) .nil)⟩
theorem dk_cons (ha : DE X c e fe) (hr : DK X c kws fs) : DK X c (⟨nm, e, kpos⟩ :: kws) (fe.cons fs) :=
  ⟨fun pos pins s σ H Q I ⟨F, ρ, rr, h⟩ => (pk_cons ha hr).run pos pins s σ H Q I ⟨F, ρ, rr, (Psts.bind h).mono (.refl _) fun v H1 ⟨F1, ρ1, d, r1, l1, t1, h1⟩ => ⟨F1, ρ1, r1, (Psts.bindA h1).mono (.refl _) fun vs H2 ⟨F2, ρ2, ds, r2, l2, t2, h2⟩ =>
    h2 (v :: vs) F2 H2 r2 (.refl _) (.cons (t1.le l2) t2)⟩⟩⟩
/-- how the keywords find their parameters, behind n positional values -/
theorem kbn_of {K : PySem.W.Frag} {fd : FuncData} (n : Nat) (h : ∀ us ws : List Value, us.length = n → ws.length = ks.length → bindArgs fd ⟨us, ks.zip ws⟩ = pure (ps.zip (us ++ pick π ws))) : KBn K fd ps n ks (fun us ws => us ++ pick π ws) (fun vs zs => vs ++ pick π zs) :=
  ⟨fun s us ws _ l1 l2 => .of_eq (h us ws l1 l2), fun r1 r2 => r1.append (pick_vals r2 π)⟩
def tCallKA (m : Nat) (sp : Sp) (gV : List V → List V → List V) (E : XK) (tk : TA) : TE := fun σ H Q => tk σ H fun zs H2 => zs.length = m ∧ sp (gV [] zs) H2 Q E
theorem pe_callKA {CX : CXT} {k : Nat} {f : Addr} {fd : FuncData} {sp : Sp} {E : XK} {tk : TA} {g : List Value → List Value → List Value} {gV : List V → List V → List V} (Fn : FnOk X.prog X.w X.K X.mg X.base CX k f fd ps sp) (hr : Room k X.A) (hg : Gl X x) (hm : X.mg x = some (.ref f)) (hk : PySem.W.keepIn X.K (.ref f) = true)
    (hb : KBn X.K fd ps 0 ks g gV) (hx : Passes CX X E) (hkw : PK X kws tk)
    (hall : (backToKw pos (keywordEach kws X.env)).all (·.1.isSome) = true := by rfl) (hks : (backToKw pos (keywordEach kws X.env)).filterMap (·.1) = ks := by rfl) (hdb : (x == ("__debug__" : Str)) = false := by decide)
    (hpl : ((backTo pos (starEach [] X.env)).any (·.1) || (backToKw pos (keywordEach kws X.env)).any (·.1.isNone)) = false := by rfl) :
    PE X (.Call (.Name x p) [] kws pos) (tCallKA ks.length sp gV E tk) :=
  ⟨fun pins s σ H Q I h => wpAny_Call_Name_kw (ld_glob I hg hm (PySem.W.callWith_KW0 (h₀ := X.base) I.ok.mod.kin hk hall (thn (hkw.run pos pins s σ H _ I h) fun ws s2 ⟨zs, H2, I2, rz, l2, q2⟩ => ⟨I2.kIn, by
    rw [hks]
    exact run_fnN (us := []) (vs := []) Fn hr hb hx I2 .nil rz rfl l2 q2⟩) hpl) hdb)⟩
def M.callK (n m : Nat) (π : List Nat) (f : List D → Res D) (ds : List D) : M D := M.grd (ds.length = m) (M.call n f (pick π ds))
theorem de_callKA {k n : Nat} {f : Addr} {fd : FuncData} {fn : List D → Res D} (fx : Fit X c) (Fn : FnOk X.prog X.w X.K X.mg X.base (L2.CX X.prog X.w) k f fd ps (spD X.K X.mg c.T n fn)) (hr : Room k X.A) (hg : Gl X x) (hm : X.mg x = some (.ref f)) (hk : PySem.W.keepIn X.K (.ref f) = true)
    (hb : KBn X.K fd ps 0 ks (fun us ws => us ++ pick π ws) (fun vs zs => vs ++ pick π zs)) (ha : DK X c kws fs)
    (hall : (backToKw pos (keywordEach kws X.env)).all (·.1.isSome) = true := by rfl) (hks : (backToKw pos (keywordEach kws X.env)).filterMap (·.1) = ks := by rfl) (hdb : (x == ("__debug__" : Str)) = false := by decide)
    (hpl : ((backTo pos (starEach [] X.env)).any (·.1) || (backToKw pos (keywordEach kws X.env)).any (·.1.isNone)) = false := by rfl) :
    DE X c (.Call (.Name x p) [] kws pos) (fs.bind (M.callK n ks.length π fn)) :=
  PEw (pe_callKA Fn hr hg hm hk hb (passNo fx) ha hall hks hdb hpl) fun σ H Q ⟨F, ρ, rr, h⟩ => ⟨F, ρ, rr, (Pst.bindA h).mono (.refl _) fun vs H1 ⟨F1, ρ1, ds, r1, l1, t1, h1⟩ => by
    obtain ⟨z, h1⟩ := Pst.grd (b := ds.length = ks.length) h1
    obtain ⟨z2, h1⟩ := Pst.grd (b := (pick π ds).length = n) h1
    exact ⟨t1.length.trans z, F1, pick π ds, ⟨r1.tab, r1.ft, r1.sub⟩, by rw [fx.k, fx.mg]; exact pick_dts t1 π, z2, endN fx fx.k fx.mg r1 h1⟩⟩
/-- C(k = v, ..) -/
def M.mkK (n m : Nat) (π : List Nat) (cn : Str) (fn : D → List D → Res (D × D)) (fs : M (List D)) : M D := fs.bind fun ds => M.grd (ds.length = m) (M.mk n cn fn (M.ret (pick π ds)))
theorem de_mkK {k n : Nat} {fI : Addr} {fd : FuncData} {fn : D → List D → Res (D × D)} (fx : Fit X c) (Mk' : Mk X.K C fI) (Fn : FnOk X.prog X.w X.K X.mg X.base (L2.CX X.prog X.w) k fI fd ps (spB X.K X.mg c.T n fn)) (hr : Room (k + 1) X.A) (hg : Gl X cn) (hm : X.mg cn = some (.ref C))
    (hb : KBn X.K fd ps 1 ks (fun us ws => us ++ pick π ws) (fun vs zs => vs ++ pick π zs)) (ha : DK X c kws fs)
    (hall : (backToKw pos (keywordEach kws X.env)).all (·.1.isSome) = true := by rfl) (hks : (backToKw pos (keywordEach kws X.env)).filterMap (·.1) = ks := by rfl) (hdb : (cn == ("__debug__" : Str)) = false := by decide)
    (hpl : ((backTo pos (starEach [] X.env)).any (·.1) || (backToKw pos (keywordEach kws X.env)).any (·.1.isNone)) = false := by rfl) :
    DE X c (.Call (.Name cn p) [] kws pos) (M.mkK n ks.length π cn fn fs) :=
  PEw (pe_makeK0 Mk' Fn hr hg hm hb (passNo fx) ha hall hks hdb hpl) fun σ H Q ⟨F, ρ, rr, h⟩ => by
    show tAs c fs σ H _
    refine ⟨F, ρ, rr, (Pst.bindA h).mono (.refl _) fun vs H1 ⟨F1, ρ1, ds, r1, l1, t1, h1⟩ => ?_⟩
    obtain ⟨z, h1⟩ := Pst.grd (b := ds.length = ks.length) h1
    refine ⟨rfl, t1.length.trans z, fun x dx n1 n2 n3 => ?_⟩
    have h2 : Pst c σ F1 (if (pick π ds).length + 1 = n then match fn (.ob cn []) (pick π ds) with | .ok (.non, .ob k gs) => .ok (.ob k gs) ρ1 | .er k fs => .er k fs ρ1 | _ => .no else .no) Q := h1
    rw [fx.mg] at hm
    by_cases z2 : (pick π ds).length + 1 = n
    · rw [if_pos z2] at h2
      rw [fx.k, fx.mg]
      exact mk_endR fx r1 n1 n2 n3 hm (pick_dts t1 π) z2 h2
    · rw [if_neg z2] at h2; exact False.elim h2
end
end DL

set_option Elab.async false
set_option linter.all false
set_option maxRecDepth 100000
set_option maxHeartbeats 4000000
/-! DX1: own exceptions over any of the three bases, held as values; their attributes. -/
namespace DL
open PySem PySem.Spec PyProof.Rows L2 Builtin.ObjectAttr
/-- a built-in base that exceptions of the text stand over -/
structure XBase (bmB : List Value) (newId : String) : Prop where
  base : ∃ B initId, ExcBaseFacts B newId initId bmB ∧ StoreFacts B bmB "object.__setattr__" "object"
/-- what the text has of such a class, its __init__ the def at fI -/
structure XCls (K : PySem.W.Frag) (C fI : Addr) (bmB : List Value) (newId : String) : Prop where
  b : XBase bmB newId
  q : PySem.W.excInitIn K C bmB newId = true
  ov : PySem.W.excOver K C bmB = true
  sa : PySem.W.findIn K (.ref C) "__setattr__" = some (some (.builtin "object.__setattr__"))
  iC : PySem.W.findIn K (.ref C) "__init__" = some (some (.ref fI))
  tI : PySem.W.typeIn K (.ref fI) = some (.type "function")
  kC : PySem.W.keepIn K (.ref C) = true
  f : XfC K C
theorem xb_Value : XBase [.type "ValueError", .type "Exception", .type "BaseException", .type "object"] "ValueError.__new__" := ⟨_, _, PySem.F.excBase_ValueError, PySem.F.store_ValueError⟩
theorem xb_Lookup : XBase [.type "LookupError", .type "Exception", .type "BaseException", .type "object"] "LookupError.__new__" := ⟨_, _, PySem.F.excBase_LookupError, PySem.F.store_LookupError⟩
theorem xb_Arith : XBase [.type "ArithmeticError", .type "Exception", .type "BaseException", .type "object"] "ArithmeticError.__new__" := ⟨_, _, PySem.F.excBase_ArithmeticError, PySem.F.store_ArithmeticError⟩
section
variable {X : Cx} {pins : List (Addr × Obj)} {σ : L2.St} {H : Hp} {s : Shared} {a C fI dx : Addr} {f : Str} {y : V} {u : Value} {fs : List (Str × V)} {Q : Unit → Shared → Prop} {E : Value → Shared → Prop} {A : Around} {bmB : List Value} {newId : String}
/-- the first attribute of an exception that is being made -/
theorem xst_new (T : XCls X.K C fI bmB newId) (I : Inv X pins σ H s) (e : H a = some (exo a C none)) (hno : PySem.W.findIn X.K (.ref C) f = some none) (ry : RelV y u)
    (h : ∀ dx s', H dx = none → dx ≠ a → Inv X pins σ (upd (upd H dx (exd dx [(f, y)])) a (exo a C (some dx))) s' → Q () s') : wpAny (model X.prog X.w) A (setAttr (.ref a) f u) Q E s := by
  obtain ⟨B, initId, FB, SF⟩ := T.b.base
  obtain ⟨cd, hcd, hh⟩ := PySem.W.any_some T.f.hdC
  obtain ⟨t1, ho⟩ := exo_at I.hok e
  obtain ⟨hp, g, d, t, os⟩ := s
  have htk : PySem.W.takerIn X.K C f = some none := NoAttr.taker hno
  refine PySem.W.set_plain I.kIn (ox := { cls := .ref C, dict := none, data := .fields #[.ref t1, .none, .none, .none, .bool false, .none] }) (od := none) ⟨ho, rfl, rfl, trivial⟩ T.sa (PySem.W.osa_openX (od := none) SF I.kIn ⟨ho, rfl, rfl, trivial⟩ T.ov htk fun b => ?_)
  have hcls : PySem.W.Looks (model X.prog X.w) hp (classData C) cd := PySem.W.looks_clsIn I.kIn hcd
  have hxs : a ≠ hp.objs.size := Nat.ne_of_lt (Heap.lt_size ho)
  obtain ⟨nm, bs, mro, ns, qn, hd, sn, sb, ab, col, del⟩ := cd
  (dsimp only at hh); subst hh
  have step : ∀ (h' : Heap) (tk' : Nat), h'.Ns1 hp.objs.size (fun y => if y = f then some u else none) → Heap.SameBut hp.objs.size ((hp.push { cls := .type "dict", data := .dict #[] }).update a fun o => { o with dict := some hp.objs.size }) h' → Q () ⟨h', g, d, tk', os⟩ := fun h' tk' hn hs => by
    have hx₁ : (hp.push { cls := .type "dict", data := .dict #[] }).get? a = some { cls := .ref C, dict := none, data := .fields #[.ref t1, .none, .none, .none, .bool false, .none] } := Heap.get?_push_of_some _ ho
    have kk : ∀ b o, b ≠ a → hp.get? b = some o → h'.get? b = some o := fun b o hb hq => (hs.2 b (Nat.ne_of_lt (Heap.lt_size hq))).trans ((Heap.get?_update_ne _ _ _ _ hb).trans (Heap.get?_push_of_some _ hq))
    have hx : h'.get? a = some { cls := .ref C, dict := some hp.objs.size, data := .fields #[.ref t1, .none, .none, .none, .bool false, .none] } := (hs.2 a hxs).trans (Heap.get?_update_self _ hx₁ rfl)
    have hnd : H hp.objs.size = none := I.hok.fresh (Nat.le_refl _)
    have nd : ∀ {b : Addr} {o : Obj}, hp.get? b = some o → b ≠ hp.objs.size := fun {b o} q => Nat.ne_of_lt (Heap.lt_size q)
    have na : ∀ {b : Addr}, H b = none → b ≠ a := fun {b} n z => by rw [z, e] at n; cases n
    have U : Un X.fs [] H (upd (upd H hp.objs.size (exd hp.objs.size [(f, y)])) a (exo a C (some hp.objs.size))) hp h' :=
      { keep := fun b o q n _ _ => kk b o (na n) q, slot := fun b o q n _ _ => ⟨o.slots, kk b o (na n) q⟩, free := fun b o q n _ => by rw [upd_ne (na n), upd_ne (nd q)]; exact n
        there := fun b o q _ => by
          by_cases hb : b = a
          · exact ⟨_, by rw [hb]; exact hx⟩
          · exact ⟨o, kk b o hb q⟩
        tups := (fun b xs q => by rw [upd_ne (at_ne e q exo_tup), upd_ne (ne_of_none q hnd)]; exact q), frzs := (fun b o v q => by rw [upd_ne (at_ne e q exo_frz), upd_ne (ne_of_none q hnd)]; exact q)
        tbls := fun b ps q => ⟨#[], by rw [upd_ne (at_ne e q exo_tbl), upd_ne (ne_of_none q hnd), q]; simp⟩ }
    refine h hp.objs.size _ hnd hxs.symm (I.un (t' := tk') U fun b o q => ?_)
    by_cases hb : b = a
    · subst hb; rw [upd_same] at q; cases q; exact exo_ok hx
    rw [upd_ne hb] at q
    by_cases hd : b = hp.objs.size
    · subst hd; rw [upd_same] at q; cases q; exact exd_ok hn (relO_put (fs := []) ry fun g => True.intro)
    rw [upd_ne hd] at q
    refine (I.hok b o q).stay (fun c v hc z => kk c v ?_ z) (fun c hc => by rw [upd_ne (at_ne e hc exo_own), upd_ne (ne_of_none hc hnd)]; exact hc) (fun c xs hc => by rw [upd_ne (at_ne e hc exo_tup), upd_ne (ne_of_none hc hnd)]; exact hc)
    rcases hc with hc | hc
    · rw [hc]; exact hb
    · exact at_ne e hc exo_own
  show wpAny _ _ (storeInOwnDict (.ref a) (.ref C) (.str f t) f u b) _ _ _
  unfold storeInOwnDict ownDictForStores
  cases b <;> (repeat (first | with_reducible refine PySem.HandSPX.store_in_new ?_ ?_ | with_reducible refine wpAny_loadPart_at ho ?_ | with_reducible refine hcls.at ?_ | wp_step))
  all_goals first
    | exact ⟨_, #[], _, (Heap.get?_update_ne _ _ _ _ hxs.symm).trans (Heap.get?_push_at rfl rfl), rfl, fun e he => absurd he (by simp), fun _ => rfl⟩
    | exact fun h' tk' hn hs => step h' tk' hn hs
/-- a further one -/
theorem xst_old (T : XCls X.K C fI bmB newId) (I : Inv X pins σ H s) (e : H a = some (exo a C (some dx))) (ed : H dx = some (exd dx fs)) (hl : fs.length ≤ 900) (hno : PySem.W.findIn X.K (.ref C) f = some none) (ry : RelV y u)
    (h : ∀ s', Inv X pins σ (upd H dx (exd dx ((f, y) :: fs))) s' → Q () s') : wpAny (model X.prog X.w) A (setAttr (.ref a) f u) Q E s := by
  obtain ⟨B, initId, FB, SF⟩ := T.b.base
  obtain ⟨cd, hcd, hh⟩ := PySem.W.any_some T.f.hdC
  obtain ⟨t1, ho⟩ := exo_at I.hok e
  obtain ⟨mA, hns, rel⟩ := exd_at I.hok ed
  have hw := within_of rel
  obtain ⟨hp, g, d, t, os⟩ := s
  obtain ⟨oD, _, _, hoD, _, _⟩ := hns.count hw
  have htk : PySem.W.takerIn X.K C f = some none := NoAttr.taker hno
  have at_ : PySem.W.InstAt hp a { cls := .ref C, dict := some dx, data := .fields #[.ref t1, .none, .none, .none, .bool false, .none] } C (some oD) := ⟨ho, rfl, rfl, hoD⟩
  refine PySem.W.set_plain I.kIn (od := some oD) at_ T.sa (PySem.W.osa_openX (od := some oD) SF I.kIn at_ T.ov htk fun b => ?_)
  have hcls : PySem.W.Looks (model X.prog X.w) hp (classData C) cd := PySem.W.looks_clsIn I.kIn hcd
  obtain ⟨nm, bs, mro, ns, qn, hd, sn, sb, ab, col, del⟩ := cd
  (dsimp only at hh); subst hh
  show wpAny _ _ (storeInOwnDict (.ref a) (.ref C) (.str f t) f u b) _ _ _
  unfold storeInOwnDict ownDictForStores
  cases b <;> (repeat (first | with_reducible refine PySem.OEX.store_in_old hns hw (by rw [List.length_map]; omega) ?_ | with_reducible refine wpAny_loadPart_at ho ?_ | with_reducible refine hcls.at ?_ | wp_step))
  all_goals
    intro h' tk' hn hs
    have hd' : ∃ o, h'.get? dx = some o := by obtain ⟨o, _, _, e', _⟩ := hn; exact ⟨o, e'⟩
    exact h _ (I.write (t' := tk') (x := dx) (e := dx) (o := exd dx ((f, y) :: fs)) (by rw [ed]; exact True.intro) (.inl rfl) (fun b o hb ho => (hs.2 b hb).trans ho) hd' (exd_ok hn (relO_put ry rel)))
end

/-! ### self.f = e in such an __init__ -/
def tXst (C : Addr) (f : Str) (to te : TE) : TS := fun D σ H => te σ H fun y H1 => to σ H1 fun x H2 => ∃ a : Addr, x = .ref a ∧
  ((H2 a = some (exo a C none) ∧ ∀ dx, H2 dx = none → dx ≠ a → D.nx σ (upd (upd H2 dx (exd dx [(f, y)])) a (exo a C (some dx)))) ∨
    ∃ (dx : Addr) (fs : List (Str × V)), H2 a = some (exo a C (some dx)) ∧ H2 dx = some (exd dx fs) ∧ fs.length ≤ 900 ∧ D.nx σ (upd H2 dx (exd dx ((f, y) :: fs))))
section
variable {X : Cx} {o e : Expr} {to te : TE} {f : Str} {p' pos : Pos} {C fI : Addr} {bmB : List Value} {newId : String}
theorem ps_xst (T : XCls X.K C fI bmB newId) (hno : PySem.W.findIn X.K (.ref C) f = some none) (ho : PE X o to) (he : PE X e te) (hs : swapsWith e (some (.Attribute o f p')) pos.line X.env = pure false := by rfl) : PS X (.Assign [.Attribute o f p'] e pos) (tXst C f to te) :=
  ⟨fun pins s σ H D I h => plainObj_wpAny_Assign_Attribute (thn (he.run pins s σ H _ I h) fun v s1 ⟨y, H1, I1, r1, q1⟩ => thn (ho.run pins s1 σ H1 _ I1 q1) fun u s2 ⟨x, H2, I2, r2, a, ex, q⟩ => by
    subst ex
    obtain rfl : u = Value.ref a := r2
    rcases q with ⟨ea, q⟩ | ⟨dx, fs, ea, ed, hl, q⟩
    · exact xst_new T I2 ea hno r1 fun dx s' n ne J => ⟨σ, _, J, q dx n ne⟩
    · exact xst_old T I2 ea ed hl hno r1 fun s' J => ⟨σ, _, J, q⟩) hs⟩
end
/-- what such an __init__ promises: the attributes, the last one first -/
def spX (C : Addr) (n : Nat) (fs : List V → List (Str × V)) : Sp := fun vs H Q _ => ∃ a ws, vs = .ref a :: ws ∧ ws.length = n ∧ H a = some (exo a C none) ∧ ∀ dx, H dx = none → dx ≠ a → Q .non (upd (upd H dx (exd dx (fs ws))) a (exo a C (some dx)))
section
variable {P : Program} {w : World} {K : PySem.W.Frag} {mg : Str → Option Value} {base : Heap} {CX' : CXT} {C fI f : Addr} {bmB : List Value} {newId : String} {x qual g g2 : Str} {st : Stmt} {fd : FuncData} {k : Nat} {p1 p2 p3 p4 q1 q2 q3 q4 : Pos}
theorem fn_spX1 (T : XCls K C fI bmB newId) (hno : PySem.W.findIn K (.ref C) g = some none) (Fn : Fun K x qual st f fd) (S : FnScope ["self", g] ["self", g] (defScope st))
    (hb : defBody st = [.Assign [.Attribute (.Name "self" p1) g p2] (.Name g p3) p4]) (hs : (g == ("__debug__" : Str)) = false := by decide) (hc : (g == ("__classdict__" : Str)) = false := by decide) :
    FnOk P w K mg base (L2.CX P w) (k + 1) f fd ["self", g] (spX C 1 fun ws => [(g, ws[0]?.getD .non)]) := by
  refine Fn.okX S (fun vs H Q E ⟨a, ws, ev, hl, _⟩ => by rw [ev, List.length_cons, hl]; rfl) fun cdv A outer s H vs Q E hr ⟨a, ws, ev, hl, ea, q⟩ => ?_
  subst ev
  rw [hb]
  have vis : ∀ z ∈ (["self", g] : List Str), Vis (defScope st) z := fun z hz => (S.par z hz).elim .inl fun h => .inr (.inl h)
  match ws, hl with
  | [y], _ => exact ⟨_, pss_one (ps_xst T hno (pe_var (i := 0) rfl (vis _ (.head _)) (by decide) (by decide)) (pe_var (i := 1) rfl (vis _ (.tail _ (.head _))) hs hc)), y, rfl, .ref a, rfl, a, rfl, .inl ⟨ea, fun dx n ne => q dx n ne⟩⟩
theorem fn_spX2 (T : XCls K C fI bmB newId) (hno : PySem.W.findIn K (.ref C) g = some none) (hno2 : PySem.W.findIn K (.ref C) g2 = some none) (Fn : Fun K x qual st f fd) (S : FnScope ["self", g, g2] ["self", g, g2] (defScope st))
    (hb : defBody st = [.Assign [.Attribute (.Name "self" p1) g p2] (.Name g p3) p4, .Assign [.Attribute (.Name "self" q1) g2 q2] (.Name g2 q3) q4]) (hs : (g == ("__debug__" : Str)) = false := by decide) (hc : (g == ("__classdict__" : Str)) = false := by decide)
    (hs2 : (g2 == ("__debug__" : Str)) = false := by decide) (hc2 : (g2 == ("__classdict__" : Str)) = false := by decide) :
    FnOk P w K mg base (L2.CX P w) (k + 1) f fd ["self", g, g2] (spX C 2 fun ws => [(g2, ws[1]?.getD .non), (g, ws[0]?.getD .non)]) := by
  refine Fn.okX S (fun vs H Q E ⟨a, ws, ev, hl, _⟩ => by rw [ev, List.length_cons, hl]; rfl) fun cdv A outer s H vs Q E hr ⟨a, ws, ev, hl, ea, q⟩ => ?_
  subst ev
  rw [hb]
  have vis : ∀ z ∈ (["self", g, g2] : List Str), Vis (defScope st) z := fun z hz => (S.par z hz).elim .inl fun h => .inr (.inl h)
  match ws, hl with
  | [y, y2], _ =>
    refine ⟨_, pss_cons (ps_xst T hno (pe_var (i := 0) rfl (vis _ (.head _)) (by decide) (by decide)) (pe_var (i := 1) rfl (vis _ (.tail _ (.head _))) hs hc))
      (pss_one (ps_xst T hno2 (pe_var (i := 0) rfl (vis _ (.head _)) (by decide) (by decide)) (pe_var (i := 2) rfl (vis _ (.tail _ (.tail _ (.head _)))) hs2 hc2))), ?_⟩
    refine ⟨y, rfl, .ref a, rfl, a, rfl, .inl ⟨ea, fun dx n ne => ⟨y2, rfl, .ref a, rfl, a, rfl, .inr ⟨dx, [(g, y)], upd_same, by rw [upd_ne ne, upd_same], by simp, ?_⟩⟩⟩⟩
    have e1 : upd (upd (upd H dx (exd dx [(g, y)])) a (exo a C (some dx))) dx (exd dx [(g2, y2), (g, y)]) = upd (upd H dx (exd dx [(g2, y2), (g, y)])) a (exo a C (some dx)) := by
      funext b
      by_cases z : b = dx
      · rw [z, upd_same, upd_ne ne, upd_same]
      · rw [upd_ne z]
        by_cases z2 : b = a
        · rw [z2, upd_same, upd_same]
        · rw [upd_ne z2, upd_ne z2, upd_ne z, upd_ne z]
    show Q .non (upd (upd (upd H dx (exd dx [(g, y)])) a (exo a C (some dx))) dx (exd dx [(g2, y2), (g, y)]))
    rw [e1]
    exact q dx n ne
end
end DL

set_option Elab.async false
set_option linter.all false
set_option maxRecDepth 100000
set_option maxHeartbeats 4000000
/-! DX2: an own exception class called with keywords. -/
namespace DL
open PySem PySem.Spec PyProof.Rows L2 Builtin.ObjectAttr
section
variable {M : Model} {prog : Program} {w : World} {A : Around} {E : Value → Shared → Prop} {R : Result → Shared → Prop} {h : Heap} {g : Array GenState} {d : Drawn} {t : Nat} {os : OsState}
variable {nm q : Str} {C N : Addr} {bs bm bmB : List Value} {hdct : Bool} {sn : List Str} {sub : List Value} {ab : Bool} {col : Option Bool} {dd : Option Addr} {k0 k1 k2 k3 k5 : Option Value} {B newId initId : String}
theorem kcheck_new (F : ExcBaseFacts B newId initId bmB) (hT : ∀ X : String, bm.contains (.type X) = bmB.contains (.type X)) {rest : List Value} {kw : List (Str × Value)} {Q : Unit → Shared → Prop}
    (hC : h.get? C = some (excClassObj nm q C N bs bm hdct sn sub ab col dd k0 k1 k2 k3 k5 newId)) (hq : Q () ⟨h, g, d, t, os⟩) : wpAny M A (checkBuiltinCall newId ⟨.ref C :: rest, kw⟩) Q E ⟨h, g, d, t, os⟩ := by
  have c1 : (Value.ref C :: bm).contains (.type B) = true := by rw [List.contains_cons, hT, F.hasB, Bool.or_true]
  have c2 := F.noStar
  simp only [checkBuiltinCall, F.newKind, F.newSplit, F.newRow]
  repeat (first | refine wpAny_loadPart_at hC ?_ | (refine wpAny_isSubtype_exc hC ?_; rw [c1]) | refine wpAny_staticBase_exc hC ?_ | refine wpAny_madeBy_exc hC ?_ | simp only [bne_self_eq_false, Bool.false_eq_true, if_false] | wp_step)
  exact hq
theorem knew (F : ExcBaseFacts B newId initId bmB) (hT : ∀ X : String, bm.contains (.type X) = bmB.contains (.type X)) {rest : List Value} {kw : List (Str × Value)} (hC : h.get? C = some (excClassObj nm q C N bs bm hdct sn sub ab col dd k0 k1 k2 k3 k5 newId))
    (hq : R (.ok (.ret (.ref (h.objs.size + 1)))) ⟨(h.push (PySem.W.kdv_tup rest)).push (PySem.HandSPX.excO C h.objs.size), g, d, t, os⟩) (hrest : rest.length ≤ sizeLine) :
    codeAny (model prog w) A (.builtin newId ⟨.ref C :: rest, kw⟩) R ⟨h, g, d, t, os⟩ := by
  have hends := F.ends
  have c1 : (Value.ref C :: bm).contains (.type B) = true := by rw [List.contains_cons, hT, F.hasB, Bool.or_true]
  have c2 : (Value.ref C :: bm).contains (.type "AttributeError") = false := by rw [List.contains_cons, hT, F.noAttr]; rfl
  have c3 : (Value.ref C :: bm).contains (.type "NameError") = false := by rw [List.contains_cons, hT, F.noName]; rfl
  refine codeAny_builtinAt F.entry ?_
  unfold Builtin.«BaseException.__new__»
  refine PySem.wpAt_bind ?_
  show PySem.wpAt _ _ _ (stack >>= _) _ _ _
  refine PySem.wpAt_bind (PySem.wpAt_stack fun p below => PySem.wpAt_of_wpAny ?_)
  wp_walk
  refine PySem.wpAt_of_wpAny ?_
  rw [F.owner]
  repeat (first | with_reducible refine wpAny_madeHere_exc F.canon hC ?_ | with_reducible refine wpAny_loadPart_at hC ?_ | (with_reducible refine wpAny_isSubtype_exc hC ?_; first | rw [c1] | rw [c2] | rw [c3]) | wp_step)
  show R _ _
  rw [Heap.size_push]
  exact hq
theorem ktcall (F : ExcBaseFacts B newId initId bmB) (hT : ∀ X : String, bm.contains (.type X) = bmB.contains (.type X)) {rest : List Value} {kw : List (Str × Value)} {fI : Addr} {Q : Fin → Shared → Prop}
    (hC : h.get? C = some (excClassObj nm q C N bs bm hdct sn sub ab col dd k0 k1 k2 k3 k5 newId)) (hi : PySem.W.Looks (model prog w) h (typeLookup (.ref C) "__init__") (some (.ref fI)))
    (hb : ∀ self, PySem.W.Looks (model prog w) h (bindSpecial (.ref fI) self) (.ref fI, [self])) (hrest : rest.length ≤ sizeLine)
    (hq : codeAny (model prog w) A (.call (.ref fI) ⟨.ref (h.objs.size + 1) :: rest, kw⟩) (fun r s' => match r with | .ok (.ret v) => v = .none ∧ Q (.done (.ret (.ref (h.objs.size + 1)))) s' | .ok _ => False | .error e => E e s')
      ⟨(h.push (PySem.W.kdv_tup rest)).push (PySem.HandSPX.excO C h.objs.size), g, d, t, os⟩) :
    wpAny (model prog w) A (Builtin.«type.__call__» ⟨.ref C :: rest, kw⟩) Q E ⟨h, g, d, t, os⟩ := by
  repeat (first | with_reducible refine wpAny_loadPart_at hC ?_ | with_reducible refine wpAny_madeBy_exc hC ?_ | wp_step)
  refine codeAny_call_builtin_code (Code.quiet_builtin _ F.quiet) (kcheck_new F hT hC (knew F hT hC ?_ hrest))
  show wpAny _ _ _ _ _ _
  have k : ∀ b o, h.get? b = some o → ((h.push (PySem.W.kdv_tup rest)).push (PySem.HandSPX.excO C h.objs.size)).get? b = some o := fun b o e => Heap.get?_push_of_some _ (Heap.get?_push_of_some _ e)
  have k1 := k _ _ hC
  have k2 : ((h.push (PySem.W.kdv_tup rest)).push (PySem.HandSPX.excO C h.objs.size)).get? (h.objs.size + 1) = some (PySem.HandSPX.excO C h.objs.size) := by heap_get
  have k3 : (Value.ref C :: bm).contains (.ref C) = true := by simp
  have i1 := hi.keeps k
  have b1 := (hb (.ref (h.objs.size + 1))).keeps k
  unfold isInstance
  repeat (first | with_reducible refine wpAny_loadPart_at k2 ?_ | (with_reducible refine wpAny_isSubtype_exc k1 ?_; rw [k3]) | wp_step)
  show wpAny _ _ (typeLookup (.ref C) _) _ _ _
  refine i1.at (wpAny_holding (wpAny_bind (b1.at (wpAny_bind (wpAny_call (codeAny_mono hq fun r s' z => ?_))))))
  rcases r with e | (v | _ | _ | _) <;> first | exact z | exact z.elim | skip
  obtain ⟨rfl, z⟩ := z
  first
    | exact wpAny_pure (wpAny_pure z)
    | (wp_walk; exact z)
theorem kcheck_call {rest : List Value} {kw : List (Str × Value)} {Q : Unit → Shared → Prop} (hC : h.get? C = some (excClassObj nm q C N bs bm hdct sn sub ab col dd k0 k1 k2 k3 k5 newId))
    (hq : Q () ⟨h, g, d, t, os⟩) : wpAny M A (checkBuiltinCall "type.__call__" ⟨.ref C :: rest, kw⟩) Q E ⟨h, g, d, t, os⟩ := by
  have f3 := tc_sub
  have hT : (⟨h, g, d, t, os⟩ : Shared).TypeIs (.ref C) "type" := ⟨_, hC, rfl⟩
  simp only [checkBuiltinCall, tc_kind, tc_split]
  repeat (any_goals (first | assumption | with_reducible refine wpAny_loadPart_at hC ?_ | with_reducible refine wpAny_onRaise ?_ | with_reducible refine wpAny_map ?_ | wp_step))
theorem kcall (F : ExcBaseFacts B newId initId bmB) (hT : ∀ X : String, bm.contains (.type X) = bmB.contains (.type X)) {rest : List Value} {kw : List (Str × Value)} {fI : Addr}
    (hC : h.get? C = some (excClassObj nm q C N bs bm hdct sn sub ab col dd k0 k1 k2 k3 k5 newId)) (hi : PySem.W.Looks (model prog w) h (typeLookup (.ref C) "__init__") (some (.ref fI)))
    (hb : ∀ self, PySem.W.Looks (model prog w) h (bindSpecial (.ref fI) self) (.ref fI, [self])) (hrest : rest.length ≤ sizeLine)
    (hq : codeAny (model prog w) (A.under (.builtin "type.__call__" ⟨.ref C :: rest, kw⟩)) (.call (.ref fI) ⟨.ref (h.objs.size + 1) :: rest, kw⟩) (PySem.W.InitBack (h.objs.size + 1) R)
      ⟨(h.push (PySem.W.kdv_tup rest)).push (PySem.HandSPX.excO C h.objs.size), g, d, t, os⟩) : codeAny (model prog w) A (.call (.ref C) ⟨rest, kw⟩) R ⟨h, g, d, t, os⟩ := by
  have f1 := tc_lookup
  have f2 := tc_bind (.ref C)
  have hTy : (⟨h, g, d, t, os⟩ : Shared).TypeIs (.ref C) "type" := ⟨_, hC, rfl⟩
  refine codeAny_of_tree ?_
  show wpAny _ _ (callAny (.ref C) _) _ _ _
  repeat (any_goals (first | assumption | with_reducible refine wpAny_loadPart_at hC ?_ | wp_step))
  refine ⟨rfl, codeAny_call_builtin_at (Code.quiet_builtin _ (by decide +kernel)) entry_typeCall (kcheck_call hC (ktcall F hT hC hi hb hrest (codeAny_mono hq fun r s' z => ?_)))⟩
  rcases r with e | (v | _ | _ | _) <;> exact z
end
end DL

set_option Elab.async false
set_option linter.all false
set_option maxRecDepth 100000
set_option maxHeartbeats 4000000
/-! DX3: own exceptions made as values, positional and by keywords; raised; their attributes read. -/
namespace DL
open PySem PySem.Spec PyProof.Rows L2
section
variable {X : Cx} {pins : List (Addr × Obj)} {σ : L2.St} {H : Hp} {s : Shared} {a C fI d : Addr} {fs : List (Str × V)} {bmB : List Value} {newId : String}
theorem exv_ok {P : Program} {w : World} {H : Hp} {h : Heap} {oe : Obj} {vs : Array Value} (e : h.get? a = some oe) (h1 : oe.cls = .ref C) (h2 : oe.dict = some d) (h3 : oe.data = .fields vs) : ObjOk P w H h a (exv a C d) :=
  ⟨⟨oe, vs, e, h1, h2, h3⟩, ⟨_, e⟩, fun g1 g2 z k => by
    obtain ⟨oe', vs', q, r⟩ := z
    exact ⟨oe', vs', k _ q, r⟩⟩
/-- a made exception is looked at as a value -/
theorem Inv.seen (I : Inv X pins σ H s) (ea : H a = some (exo a C (some d))) (ed : H d = some (exd d fs)) (ne : d ≠ a) : Inv X pins σ (upd (upd H a (exv a C d)) d (.xd fs)) s := by
  obtain ⟨t1, ho⟩ := exo_at I.hok ea
  obtain ⟨mA, hns, rel⟩ := exd_at I.hok ed
  obtain ⟨h, g, dr, t, os⟩ := s
  have J : Inv X pins σ (upd H a (exv a C d)) ⟨h, g, dr, t, os⟩ := I.write (t' := t) (x := a) (e := a) (o := exv a C d) (h' := h) (by rw [ea]; exact True.intro) (.inl rfl) (fun b u _ z => z) ⟨_, ho⟩ (exv_ok ho rfl rfl rfl)
  have ed' : upd H a (exv a C d) d = some (exd d fs) := by rw [upd_ne ne]; exact ed
  have hd : ∃ u, h.get? d = some u := by obtain ⟨o, _, _, e, _⟩ := hns; exact ⟨o, e⟩
  exact J.write (t' := t) (x := d) (e := d) (o := .xd fs) (h' := h) (by rw [ed']; exact True.intro) (.inl rfl) (fun b u _ z => z) hd ⟨mA, hns, rel⟩
theorem run_xmk {CX' : CXT} {k n : Nat} {fd : FuncData} {ps ks : List Str} {sp : Sp} {Q : VK} {us ws : List Value} {vs zs : List V} {gg : List Value → List Value → List Value} {gV : List V → List V → List V} (T : XCls X.K C fI bmB newId) (Fn : FnOk X.prog X.w X.K X.mg X.base CX' k fI fd ps sp) (hr : Room (k + 1) X.A)
    (hb : KBn X.K fd ps (n + 1) ks gg gV) (hx : Passes CX' X (fun _ _ _ => False)) (I : Inv X pins σ H s) (r : Vals vs us) (rz : Vals zs ws) (l1 : vs.length = n) (l2 : zs.length = ks.length) (hn : n ≤ 1000)
    (h : ∀ a, H a = none → sp (gV (.ref a :: vs) zs) (upd H a (exo a C none)) (fun v H2 => v = .non ∧ ∃ (d : Addr) (fs : List (Str × V)), H2 a = some (exo a C (some d)) ∧ H2 d = some (exd d fs) ∧ d ≠ a ∧ Q (.ref a) (upd (upd H2 a (exv a C d)) d (.xd fs))) (fun _ _ _ => False)) :
    wpAny (model X.prog X.w) X.A (call (.ref C) us (ks.zip ws)) (EP X pins σ Q) X.xe s := by
  obtain ⟨B, initId, FB, SF⟩ := T.b.base
  obtain ⟨nm, N', qn, bs, bm, hdct, sn, sub, ab, col, dd, k0, k1, k2, k3, k5, hC, hT⟩ := PySem.W.excInit_of I.kIn T.q
  obtain ⟨hp, g, dr, tk, os⟩ := s
  have hsz : hp.objs.size ≤ hp.objs.size + 1 := Nat.le_succ _
  have hq := h (hp.objs.size + 1) (I.hok.fresh hsz)
  have kk : ∀ b o, hp.get? b = some o → ((hp.push (PySem.W.kdv_tup us)).push (PySem.HandSPX.excO C hp.objs.size)).get? b = some o := fun b o e => Heap.get?_push_of_some _ (Heap.get?_push_of_some _ e)
  have hget : ((hp.push (PySem.W.kdv_tup us)).push (PySem.HandSPX.excO C hp.objs.size)).get? (hp.objs.size + 1) = some (PySem.HandSPX.excO C hp.objs.size) := by heap_get
  have I2 : Inv X pins σ (upd H (hp.objs.size + 1) (exo (hp.objs.size + 1) C none)) ⟨(hp.push (PySem.W.kdv_tup us)).push (PySem.HandSPX.excO C hp.objs.size), g, dr, tk, os⟩ := I.laid (t' := tk) (a := hp.objs.size + 1) (o := exo (hp.objs.size + 1) C none) kk hsz (exo_ok hget)
  have r1 : Vals (V.ref (hp.objs.size + 1) :: vs) (Value.ref (hp.objs.size + 1) :: us) := .cons rfl r
  have r2 := hb.rel r1 rz
  have n1 : (Value.ref (hp.objs.size + 1) :: us).length = n + 1 := by rw [List.length_cons, ← r.length, l1]
  have hus : us.length ≤ sizeLine := by rw [← r.length, l1, sizeLine_eq]; omega
  refine wpAny_call (kcall FB hT hC (PySem.W.looks_findIn I.kIn T.iC) (fun self => PySem.W.bind_fn I.kIn self T.tI) hus (codeAny_mono (Fn.run _ X.stack _ _ ⟨Value.ref (hp.objs.size + 1) :: us, ks.zip ws⟩ (gg (Value.ref (hp.objs.size + 1) :: us) ws) _ _ (fun _ _ _ => False) (hr.make C us (ks.zip ws)) (I2.env0.make C us (ks.zip ws))
    (hb.to _ (Value.ref (hp.objs.size + 1) :: us) ws I2.kIn n1 (rz.length.symm.trans l2)) r2 hq) fun rs s' hq' => ?_))
  match rs, hq' with
  | .error er, hq' => exact hx pins σ _ _ er s' I2 hq'
  | .ok (.ret u), hq' =>
    obtain ⟨v, H2, I3, rv, ev, d, fs, ea, ed, ne, q2⟩ := I2.after hq'
    subst ev
    exact ⟨rv, V.ref (hp.objs.size + 1), _, Inv.seen I3 ea ed ne, rfl, q2⟩
  | .ok .next, hq' => exact hq'.elim
  | .ok .brk, hq' => exact hq'.elim
  | .ok .cont, hq' => exact hq'.elim
/-- the positional binding as one with no keywords -/
theorem kbn_pos {K : PySem.W.Frag} {fd : FuncData} {ps : List Str} {n : Nat} (hb : Binds K fd ps []) (hl : ps.length = n) : KBn K fd ps n [] (fun us _ => us) (fun vs _ => vs) :=
  ⟨fun s us ws X l1 l2 => by
    have q := hb s us X (by rw [List.append_nil, l1, hl])
    rw [List.append_nil] at q
    exact q, fun r _ => r⟩
def tXmk (X : Cx) (C : Addr) (n m : Nat) (sp : Sp) (gV : List V → List V → List V) (t tk : TA) : TE := fun σ H Q => t σ H fun vs H1 => tk σ H1 fun zs H2 => vs.length = n ∧ zs.length = m ∧ ∀ a, H2 a = none →
  sp (gV (.ref a :: vs) zs) (upd H2 a (exo a C none)) (fun v H3 => v = .non ∧ ∃ (d : Addr) (fs : List (Str × V)), H3 a = some (exo a C (some d)) ∧ H3 d = some (exd d fs) ∧ d ≠ a ∧ Q (.ref a) (upd (upd H3 a (exv a C d)) d (.xd fs))) (fun _ _ _ => False)
variable {CX' : CXT} {k n : Nat} {fd : FuncData} {ps ks : List Str} {sp : Sp} {x : Str} {p pos : Pos} {e : Expr} {es : List Expr} {kws : List Keyword} {t tk : TA} {gg : List Value → List Value → List Value} {gV : List V → List V → List V}
theorem pe_xmk (T : XCls X.K C fI bmB newId) (Fn : FnOk X.prog X.w X.K X.mg X.base CX' k fI fd ps sp) (hr : Room (k + 1) X.A) (hb : KBn X.K fd ps (n + 1) [] gg gV) (hn : n ≤ 1000) (hx : Passes CX' X (fun _ _ _ => False)) (hg : Gl X x) (hm : X.mg x = some (.ref C)) (ha : PA X (e :: es) t)
    (hdb : (x == ("__debug__" : Str)) = false := by decide) (he : starEach (e :: es) X.env = (false, eval e X.env) :: starEach es X.env := by rfl) (hpl : (backTo pos (starEach es X.env)).any (·.1) = false := by rfl) :
    PE X (.Call (.Name x p) (e :: es) [] pos) (tXmk X C n 0 sp gV t tNil) :=
  ⟨fun pins s σ H Q I h => wpAny_Call_Name_kw (ld_glob I hg hm (PySem.W.callWith_K (h₀ := X.base) I.ok.mod.kin T.kC (thn (ha.run pos pins s σ H _ I h) fun us s1 ⟨vs, H1, I1, r, q⟩ => ⟨I1.kIn, by
    obtain ⟨l1, l2, q⟩ := q
    exact run_xmk (ks := []) (ws := []) (zs := []) T Fn hr hb hx I1 r .nil l1 rfl hn q⟩) he hpl) hdb)⟩
theorem pe_xmkK (T : XCls X.K C fI bmB newId) (Fn : FnOk X.prog X.w X.K X.mg X.base CX' k fI fd ps sp) (hr : Room (k + 1) X.A) (hb : KBn X.K fd ps 1 ks gg gV) (hx : Passes CX' X (fun _ _ _ => False)) (hg : Gl X x) (hm : X.mg x = some (.ref C)) (hkw : PK X kws tk)
    (hall : (backToKw pos (keywordEach kws X.env)).all (·.1.isSome) = true := by rfl) (hks : (backToKw pos (keywordEach kws X.env)).filterMap (·.1) = ks := by rfl) (hdb : (x == ("__debug__" : Str)) = false := by decide)
    (hpl : ((backTo pos (starEach [] X.env)).any (·.1) || (backToKw pos (keywordEach kws X.env)).any (·.1.isNone)) = false := by rfl) :
    PE X (.Call (.Name x p) [] kws pos) (tXmk X C 0 ks.length sp gV tNil tk) :=
  ⟨fun pins s σ H Q I h => wpAny_Call_Name_kw (ld_glob I hg hm (PySem.W.callWith_KW0 (h₀ := X.base) I.ok.mod.kin T.kC hall (thn (hkw.run pos pins s σ H _ I h) fun ws s2 ⟨zs, H2, I2, rz, q⟩ => ⟨I2.kIn, by
    obtain ⟨l1, l2, q⟩ := q
    rw [hks]
    exact run_xmk (us := []) (vs := []) T Fn hr hb hx I2 .nil rz rfl l2 (by decide) q⟩) hpl) hdb)⟩
end

/-! ### .. over data -/
section
variable {X : Cx} {c : Fc} {F H : Hp} {σ : L2.St} {ρ : Sls} {a e : Expr} {fa fe : M D} {es : List Expr} {fs : M (List D)} {pos p p1 p2 : Pos} {cn f : Str} {C fI : Addr} {bmB : List Value} {newId : String} {k n : Nat} {fd : FuncData} {ps ks : List Str} {kws : List Keyword} {π : List Nat}
/-- attributes by the arguments, for data and for values alike -/
structure Mkf (n : Nat) (fV : List V → List (Str × V)) (fD : List D → List (Str × D)) : Prop where
  go : ∀ {K : PySem.W.Frag} {mg : Str → Option Value} {F : Hp} {vs : List V} {ds : List D}, vs.length = n → Dts K mg F vs ds → (fV vs).map (·.1) = (fD ds).map (·.1) ∧ Dts K mg F ((fV vs).map (·.2)) ((fD ds).map (·.2))
def fD1 (g : Str) (ds : List D) : List (Str × D) := [(g, ds[0]?.getD .non)]
def fD2 (g g2 : Str) (ds : List D) : List (Str × D) := [(g2, ds[1]?.getD .non), (g, ds[0]?.getD .non)]
theorem mkf1 {g : Str} : Mkf 1 (fun ws => [(g, ws[0]?.getD .non)]) (fD1 g) := ⟨fun {K mg F vs ds} hl t => by
  match vs, ds, hl, t with
  | [v], [d], _, .cons h .nil => exact ⟨rfl, .cons h .nil⟩⟩
theorem mkf2 {g g2 : Str} : Mkf 2 (fun ws => [(g2, ws[1]?.getD .non), (g, ws[0]?.getD .non)]) (fD2 g g2) := ⟨fun {K mg F vs ds} hl t => by
  match vs, ds, hl, t with
  | [v, v'], [d, d'], _, .cons h (.cons h' .nil) => exact ⟨rfl, .cons h' (.cons h .nil)⟩⟩
def M.xmk (n : Nat) (cn : Str) (fD : List D → List (Str × D)) (ds : List D) : M D := M.grd (ds.length = n) (M.ret (.ex cn (fD ds)))
theorem xmk_end {fV : List V → List (Str × V)} {fD : List D → List (Str × D)} {vs : List V} {ds : List D} {Q : VK} {E : XK} (K : Mkf n fV fD) (m : c.mg cn = some (.ref C)) (rr : R c F H σ ρ) (t : c.Dts F vs ds) (hl : vs.length = n) (h : Pst c σ F (M.ret (D.ex cn (fD ds)) ρ) Q) (a : Addr) (ha : H a = none) :
    spX C n fV (.ref a :: vs) (upd H a (exo a C none)) (fun v H2 => v = .non ∧ ∃ (d : Addr) (fs : List (Str × V)), H2 a = some (exo a C (some d)) ∧ H2 d = some (exd d fs) ∧ d ≠ a ∧ Q (.ref a) (upd (upd H2 a (exv a C d)) d (.xd fs))) E := by
  refine ⟨a, vs, rfl, hl, upd_same, fun dx hd ne => ⟨rfl, dx, fV vs, upd_same, by rw [upd_ne ne, upd_same], ne, ?_⟩⟩
  rw [upd_ne ne] at hd
  have e1 : upd (upd (upd (upd (upd H a (exo a C none)) dx (exd dx (fV vs))) a (exo a C (some dx))) a (exv a C dx)) dx (.xd (fV vs)) = upd (upd H a (exv a C dx)) dx (.xd (fV vs)) := by
    funext b
    by_cases z : b = dx
    · rw [z, upd_same, upd_same]
    · rw [upd_ne z, upd_ne z]
      by_cases z2 : b = a
      · rw [z2, upd_same, upd_same]
      · rw [upd_ne z2, upd_ne z2, upd_ne z2, upd_ne z, upd_ne z2]
  rw [e1]
  have x1 : Ext c.T F H (upd F a (exv a C dx)) (upd H a (exv a C dx)) := .new rr.sub ha
  have hd1 : upd H a (exv a C dx) dx = none := by rw [upd_ne ne]; exact hd
  have x2 : Ext c.T (upd F a (exv a C dx)) (upd H a (exv a C dx)) (upd (upd F a (exv a C dx)) dx (.xd (fV vs))) (upd (upd H a (exv a C dx)) dx (.xd (fV vs))) := .new x1.sub hd1
  have x3 := x1.trans x2
  obtain ⟨k1, k2⟩ := K.go hl t
  exact h _ _ _ (rr.ext x3) (x3.le rr.sub) (.ex m (by rw [upd_ne (Ne.symm ne), upd_same]) upd_same k1 (k2.le (x3.le rr.sub)))
theorem de_xmk {fV : List V → List (Str × V)} {fD : List D → List (Str × D)} (fx : Fit X c) (K : Mkf n fV fD) (T : XCls X.K C fI bmB newId) (Fn : FnOk X.prog X.w X.K X.mg X.base (L2.CX X.prog X.w) k fI fd ps (spX C n fV)) (hr : Room (k + 1) X.A) (hb : Binds X.K fd ps []) (hpn : ps.length = n + 1) (hn : n ≤ 1000) (hg : Gl X cn) (hm : X.mg cn = some (.ref C))
    (ha : DA X c (a :: es) fs) (hdb : (cn == ("__debug__" : Str)) = false := by decide) (he : starEach (a :: es) X.env = (false, eval a X.env) :: starEach es X.env := by rfl) (hpl : (backTo pos (starEach es X.env)).any (·.1) = false := by rfl) :
    DE X c (.Call (.Name cn p) (a :: es) [] pos) (fs.bind (M.xmk n cn fD)) :=
  PEw (pe_xmk T Fn hr (kbn_pos hb hpn) hn passF hg hm ha hdb he hpl) fun σ H Q ⟨F, ρ, rr, h⟩ => ⟨F, ρ, rr, (Pst.bindA h).mono (.refl _) fun vs H1 ⟨F1, ρ1, ds, r1, l1, t1, h1⟩ => by
    obtain ⟨z, h1⟩ := Pst.grd (b := ds.length = n) h1
    rw [fx.mg] at hm
    exact ⟨t1.length.trans z, rfl, fun a ha => xmk_end K hm r1 t1 (t1.length.trans z) h1 a ha⟩⟩
theorem de_xmkK {fV : List V → List (Str × V)} {fD : List D → List (Str × D)} (fx : Fit X c) (K : Mkf n fV fD) (T : XCls X.K C fI bmB newId) (Fn : FnOk X.prog X.w X.K X.mg X.base (L2.CX X.prog X.w) k fI fd ps (spX C n fV)) (hr : Room (k + 1) X.A) (hb : KBn X.K fd ps 1 ks (fun us ws => us ++ pick π ws) (fun vs zs => vs ++ pick π zs)) (hg : Gl X cn) (hm : X.mg cn = some (.ref C))
    (ha : DK X c kws fs) (hall : (backToKw pos (keywordEach kws X.env)).all (·.1.isSome) = true := by rfl) (hks : (backToKw pos (keywordEach kws X.env)).filterMap (·.1) = ks := by rfl) (hdb : (cn == ("__debug__" : Str)) = false := by decide)
    (hpl : ((backTo pos (starEach [] X.env)).any (·.1) || (backToKw pos (keywordEach kws X.env)).any (·.1.isNone)) = false := by rfl) :
    DE X c (.Call (.Name cn p) [] kws pos) (fs.bind fun ds => M.grd (ds.length = ks.length) (M.xmk n cn fD (pick π ds))) :=
  PEw (pe_xmkK T Fn hr hb passF hg hm ha hall hks hdb hpl) fun σ H Q ⟨F, ρ, rr, h⟩ => by
    show tAs c fs σ H _
    refine ⟨F, ρ, rr, (Pst.bindA h).mono (.refl _) fun vs H1 ⟨F1, ρ1, ds, r1, l1, t1, h1⟩ => ?_⟩
    obtain ⟨z, h1⟩ := Pst.grd (b := ds.length = ks.length) h1
    obtain ⟨z2, h1⟩ := Pst.grd (b := (pick π ds).length = n) h1
    rw [fx.mg] at hm
    have t2 := pick_dts t1 π
    exact ⟨rfl, t1.length.trans z, fun a ha => xmk_end K hm r1 t2 (t2.length.trans z2) h1 a ha⟩
end
end DL

set_option Elab.async false
set_option linter.all false
set_option maxRecDepth 100000
set_option maxHeartbeats 4000000
/-! DX4: attributes of exceptions, exceptions raised. -/
namespace DL
open PySem PySem.Spec PyProof.Rows L2
section
variable {X : Cx} {c : Fc} {F H : Hp} {σ : L2.St} {ρ : Sls} {a e : Expr} {fa fe : M D} {es : List Expr} {fs : M (List D)} {pos p p1 p2 : Pos} {cn f : Str} {C fI : Addr} {bmB : List Value} {newId : String} {k n : Nat} {fd : FuncData} {ps ks : List Str}
/-- e.f of a tracked exception -/
def tXv (K : PySem.W.Frag) (te : TE) (f : Str) : TE := fun σ H Q => te σ H fun x H1 => ∃ (a C d : Addr) (fs : List (Str × V)) (v : V), x = .ref a ∧ H1 a = some (exv a C d) ∧ H1 d = some (.xd fs) ∧ XfC K C ∧ PySem.W.findIn K (.ref C) f = some none ∧ fs.lookup f = some v ∧ Q v H1
theorem pe_xv {te : TE} (he : PE X e te) (hb : attributeBase e f X.env (eval e X.env) = eval e X.env := by rfl) : PE X (.Attribute e f pos) (tXv X.K te f) :=
  ⟨fun pins s σ H Q I h => attr_of hb (thn (he.run pins s σ H _ I h) fun u s1 ⟨x, H1, I1, rx, a, C, dd, fs, v, ex, ea, ed, T, hno, l, q⟩ => by
    subst ex
    obtain rfl : u = Value.ref a := rx
    have hx : ObjOk X.prog X.w H1 s1.heap a (.ext fun h => ∃ (oe : Obj) (vs : Array Value), h.get? a = some oe ∧ oe.cls = .ref C ∧ oe.dict = some dd ∧ oe.data = .fields vs) := I1.hok a _ ea
    obtain ⟨oe, vs, ha, h1, h2, h3⟩ := hx.1
    have hd : ObjOk X.prog X.w H1 s1.heap dd (.xd fs) := I1.hok dd _ ed
    obtain ⟨mA, hns, hr⟩ := hd
    obtain ⟨od, ho, hl⟩ := lookIn_ns hns
    obtain ⟨u, hu, ru⟩ := RelO.some_of (v := v) (o := mA f) (by rw [← l]; exact hr f)
    have J : PySem.W.InstAt s1.heap a oe C (some od) := ⟨ha, h1, by unfold PySem.W.notCls; rw [h3] <;> rfl, by rw [h2]; exact ho⟩
    exact HandSPX.exc_get I1.kIn J T.ga T.gg T.exC (PySem.W.findObj_own T.hdC hno rfl (by rw [hl, hu])) (handed_of ru) ⟨v, H1, I1.tok _, ru, q⟩)⟩
/-- the classes whose attribute f may be read -/
structure XTab (K : PySem.W.Frag) (mg : Str → Option Value) (l : List Str) (f : Str) : Prop where
  go : ∀ cn ∈ l, ∀ C : Addr, mg cn = some (.ref C) → XfC K C ∧ PySem.W.findIn K (.ref C) f = some none
def M.xf (l : List Str) (fa : M D) (f : Str) : M D := fa.bind fun d => match d with
  | .ex cn fs => if cn ∈ l then M.of (fs.lookup f) else M.no
  | _ => M.no
theorem de_xf {l : List Str} (fx : Fit X c) (T : XTab X.K X.mg l f) (ha : DE X c a fa) (hb : attributeBase a f X.env (eval a X.env) = eval a X.env := by rfl) : DE X c (.Attribute a f pos) (M.xf l fa f) :=
  PEw (pe_xv ha hb) fun σ H Q ⟨F, ρ, rr, h⟩ => ⟨F, ρ, rr, (Pst.bind h).mono (.refl _) fun v H1 ⟨F1, ρ1, d, r1, l1, t1, h1⟩ => by
    cases t1 with
    | @ex a C d cn fs ds m h hd k t =>
      dsimp only at h1
      by_cases z : cn ∈ l
      · rw [if_pos z] at h1
        obtain ⟨w, ew, h1⟩ := Pst.of (o := ds.lookup f) h1
        obtain ⟨u, eu, du⟩ := Dts.lookup k t ew
        rw [fx.mg] at T
        obtain ⟨T1, T2⟩ := T.go cn z C m
        exact ⟨a, C, d, fs, u, rfl, r1.sub _ _ h, r1.sub _ _ hd, T1, T2, eu, h1.ret r1 du⟩
      · rw [if_neg z] at h1; exact False.elim h1
    | @ex0 a C cn m h =>
      dsimp only at h1
      by_cases z : cn ∈ l
      · rw [if_pos z] at h1; exact False.elim h1
      · rw [if_neg z] at h1; exact False.elim h1
    | _ => exact False.elim h1⟩

/-! ### raise C(e, ..) -/
theorem pmk_x {t : TA} {fV : List V → List (Str × V)} {x : Str} (T : XCls X.K C fI bmB newId) (Fn : FnOk X.prog X.w X.K X.mg X.base (L2.CX X.prog X.w) k fI fd ps (spX C n fV)) (hr : Room (k + 1) X.A) (hb : Binds X.K fd ps []) (hpn : ps.length = n + 1) (hn : n ≤ 1000) (hg : Gl X x) (hm : X.mg x = some (.ref C)) (ha : PA X (e :: es) t)
    (hdb : (x == ("__debug__" : Str)) = false := by decide) (he : starEach (e :: es) X.env = (false, eval e X.env) :: starEach es X.env := by rfl) (hpl : (backTo pos (starEach es X.env)).any (·.1) = false := by rfl) (ty : PySem.W.typeIn X.K (.ref C) = some (.type "type")) :
    PMk X (.Call (.Name x p) (e :: es) [] pos) (fun σ H Q => t σ H fun vs H1 => vs.length = n ∧ ∀ dx, H1 dx = none → Q (.ref C) (some dx) (upd H1 dx (.xd (fV vs)))) := fun pins s σ H Q I h => by
  refine wpAny_Call_Name_kw (ld_glob I hg hm (PySem.W.callWith_K (h₀ := X.base) I.ok.mod.kin T.kC (thn (ha.run pos pins s σ H _ I h) fun us s1 ⟨vs, H1, I1, r, l1, q⟩ => ⟨I1.kIn, ?_⟩) he hpl) hdb)
  show wpAny _ _ (call (.ref C) us) _ _ _
  obtain ⟨B, initId, FB, SF⟩ := T.b.base
  obtain ⟨nm, N', qn, bs, bm, hdct, sn, sub, ab, col, dd, k0, k1, k2, k3, k5, hC, hT⟩ := PySem.W.excInit_of I1.kIn T.q
  obtain ⟨hp, g, dr, tk, os⟩ := s1
  have hsz : hp.objs.size ≤ hp.objs.size + 1 := Nat.le_succ _
  have hna : H1 (hp.objs.size + 1) = none := I1.hok.fresh hsz
  have kk : ∀ b o, hp.get? b = some o → ((hp.push (PySem.W.kdv_tup us)).push (PySem.HandSPX.excO C hp.objs.size)).get? b = some o := fun b o e => Heap.get?_push_of_some _ (Heap.get?_push_of_some _ e)
  have hget : ((hp.push (PySem.W.kdv_tup us)).push (PySem.HandSPX.excO C hp.objs.size)).get? (hp.objs.size + 1) = some (PySem.HandSPX.excO C hp.objs.size) := by heap_get
  have I2 : Inv X pins σ (upd H1 (hp.objs.size + 1) (exo (hp.objs.size + 1) C none)) ⟨(hp.push (PySem.W.kdv_tup us)).push (PySem.HandSPX.excO C hp.objs.size), g, dr, tk, os⟩ := I1.laid (t' := tk) (a := hp.objs.size + 1) (o := exo (hp.objs.size + 1) C none) kk hsz (exo_ok hget)
  have r2 : Vals (V.ref (hp.objs.size + 1) :: vs) (Value.ref (hp.objs.size + 1) :: us) := .cons rfl r
  have hl : (Value.ref (hp.objs.size + 1) :: us).length = ps.length := by rw [List.length_cons, ← r.length, l1, hpn]
  have hus : us.length ≤ sizeLine := by rw [← r.length, l1, sizeLine_eq]; omega
  have hbi := hb ⟨(hp.push (PySem.W.kdv_tup us)).push (PySem.HandSPX.excO C hp.objs.size), g, dr, tk, os⟩ (Value.ref (hp.objs.size + 1) :: us) I2.kIn (by rw [List.append_nil]; exact hl)
  rw [List.append_nil] at hbi
  have hsp : spX C n fV (V.ref (hp.objs.size + 1) :: vs) (upd H1 (hp.objs.size + 1) (exo (hp.objs.size + 1) C none)) (fun v H2 => v = .non ∧ ∃ dx, H1 dx = none ∧ dx ≠ hp.objs.size + 1 ∧ H2 = upd (upd (upd H1 (hp.objs.size + 1) (exo (hp.objs.size + 1) C none)) dx (exd dx (fV vs))) (hp.objs.size + 1) (exo (hp.objs.size + 1) C (some dx))) (fun _ _ _ => False) :=
    ⟨_, vs, rfl, l1, upd_same, fun dx hd ne => ⟨rfl, dx, by rw [upd_ne ne] at hd; exact hd, ne, rfl⟩⟩
  refine wpAny_call (PySem.HandSPX.call_own FB hT hC (PySem.W.looks_findIn I1.kIn T.iC) (fun self => PySem.W.bind_fn I1.kIn self T.tI) hus (codeAny_mono (Fn.run _ X.stack _ _ ⟨Value.ref (hp.objs.size + 1) :: us, []⟩ (Value.ref (hp.objs.size + 1) :: us) _ _ (fun _ _ _ => False) (hr.make C us []) (I2.env0.make C us []) hbi r2 hsp) fun rs s' hq' => ?_))
  match rs, hq' with
  | .error er, hq' => exact passF pins σ _ _ er s' I2 hq'
  | .ok (.ret u), hq' =>
    obtain ⟨v, H2, os2, bare2, un2, hok2, rv, ev, dx, hd, ne, eH⟩ := hq'
    subst ev
    subst eH
    obtain ⟨h2, g2, d2, t2, os'⟩ := s'
    refine ⟨rv, L2.mk_end (d := dx) (fs := fV vs) (raises_own T.f.exC ty) I1 hsz kk un2 hok2 os2 bare2 upd_same (by rw [upd_ne ne, upd_same]) hd ?_⟩
    have e1 : upd (del (upd (upd (upd H1 (hp.objs.size + 1) (exo (hp.objs.size + 1) C none)) dx (exd dx (fV vs))) (hp.objs.size + 1) (exo (hp.objs.size + 1) C (some dx))) (hp.objs.size + 1)) dx (.xd (fV vs)) = upd H1 dx (.xd (fV vs)) := by
      funext b
      by_cases z : b = dx
      · rw [z, upd_same, upd_same]
      · rw [upd_ne z, upd_ne z]
        by_cases z2 : b = hp.objs.size + 1
        · rw [z2, del_same, hna]
        · rw [del_ne z2, upd_ne z2, upd_ne z, upd_ne z2]
    rw [e1]
    exact q dx hd
  | .ok .next, hq' => exact hq'.elim
  | .ok .brk, hq' => exact hq'.elim
  | .ok .cont, hq' => exact hq'.elim
def M.rais (n : Nat) (cn : Str) (fD : List D → List (Str × D)) (fs : M (List D)) : M Out := fs.bind fun ds => M.grd (ds.length = n) fun ρ => .er cn (fD ds) ρ
/-- as Fit, where what is wished of exceptions may look at the slots: within a try -/
structure FitT (X : Cx) (c : Fc) : Prop where
  k : X.K = c.K
  mg : X.mg = c.mg
  tk : Takes X c.W
theorem Fit.t (fx : Fit X c) : FitT X c := ⟨fx.k, fx.mg, fx.tk⟩
theorem ds_rais {fV : List V → List (Str × V)} {fD : List D → List (Str × D)} (hcalm : X.calm = true) (fx : FitT X c) (K : Mkf n fV fD) (T : XCls X.K C fI bmB newId) (ty : PySem.W.typeIn X.K (.ref C) = some (.type "type")) (Fn : FnOk X.prog X.w X.K X.mg X.base (L2.CX X.prog X.w) k fI fd ps (spX C n fV)) (hr : Room (k + 1) X.A) (hb : Binds X.K fd ps []) (hpn : ps.length = n + 1) (hn : n ≤ 1000) (hg : Gl X cn) (hm : X.mg cn = some (.ref C))
    (ha : DA X c (a :: es) fs) (hdb : (cn == ("__debug__" : Str)) = false := by decide) (he : starEach (a :: es) X.env = (false, eval a X.env) :: starEach es X.env := by rfl) (hpl : (backTo p2 (starEach es X.env)).any (·.1) = false := by rfl) :
    DS X c (.Raise (some (.Call (.Name cn p) (a :: es) [] p2)) none pos) (M.rais n cn fD fs) :=
  PSw (ps_raise hcalm fx.tk (pmk_x T Fn hr hb hpn hn hg hm ha hdb he hpl ty)) fun E σ H ⟨F, ρ, rr, h⟩ => ⟨F, ρ, rr, (Sst.bindA (σ := σ) h).mono (.refl _) fun vs H1 ⟨F1, ρ1, ds, r1, l1, t1, h1⟩ => by
    obtain ⟨z, h1⟩ := Sst.grd (b := ds.length = n) h1
    refine ⟨t1.length.trans z, fun dx hd => ?_⟩
    obtain ⟨k1, k2⟩ := K.go (t1.length.trans z) t1
    exact h1 C dx σ _ _ (fV vs) (by rw [← fx.mg]; exact hm) (r1.ext (.new r1.sub hd)) ((Ext.new (T := c.T) r1.sub hd).le r1.sub) upd_same k1 (k2.le ((Ext.new (T := c.T) r1.sub hd).le r1.sub))⟩
end
end DL

set_option Elab.async false
set_option linter.all false
set_option maxRecDepth 100000
set_option maxHeartbeats 4000000
/-! DX5: try .. except as, the caught exception a datum. -/
namespace DL
open PySem PySem.Spec PyProof.Rows L2
section
variable {X : Cx} {pins : List (Addr × Obj)} {σ : L2.St} {H : Hp} {s : Shared} {a : Addr} {o : HO} {oe : Obj}
/-- an object that the run itself has made is tracked from here on -/
theorem Inv.track (I : Inv X pins σ H s) (na : H a = none) (h0 : X.s_0.heap.get? a = none) (hx : s.heap.get? a = some oe) (hnc : ∀ v, oe.data ≠ .cell v) (nL : a ≠ X.env.locals) (np : ∀ p ∈ X.pn ++ pins, p.1 ≠ a) (new : ObjOk X.prog X.w (upd H a o) s.heap a o) : Inv X pins σ (upd H a o) s where
  ok := I.ok
  os := I.os
  bare := I.bare
  base := { keep := I.base.keep, slot := I.base.slot, there := I.base.there
            free := fun b o q n hx => by rw [upd_ne (fun z => by rw [z, h0] at q; cases q)]; exact I.base.free b o q n hx
            tups := fun b xs q => by have y := I.base.tups b xs q; rw [upd_ne (ne_of_none y na)]; exact y
            frzs := fun b o u q => by have y := I.base.frzs b o u q; rw [upd_ne (ne_of_none y na)]; exact y
            tbls := fun b ps q => by obtain ⟨m, y⟩ := I.base.tbls b ps q; exact ⟨m, by rw [upd_ne (ne_of_none y na)]; exact y⟩ }
  loc := I.loc
  cell := I.cell
  free := by rw [upd_ne (Ne.symm nL)]; exact I.free
  freeC := fun x c e => by
    obtain ⟨v, oc, h1, h2⟩ := I.cell x c e
    rw [upd_ne (fun z => by rw [z, hx] at h1; cases h1; exact hnc _ h2)]; exact I.freeC x c e
  pin := fun p hp => by
    obtain ⟨k1, k2, k3⟩ := I.pin p hp
    exact ⟨k1, by rw [upd_ne (np p hp)]; exact k2, k3⟩
  hok := fun b u e => by
    by_cases hb : b = a
    · subst hb; rw [upd_same] at e; cases e; exact new
    · rw [upd_ne hb] at e
      exact (I.hok b u e).stay (fun c v _ q => q) (fun c q => by rw [upd_ne (ne_of_none q na)]; exact q) fun c xs q => by rw [upd_ne (ne_of_none q na)]; exact q
  len := I.len
/-- what an except clause names: t, and how an exception's class stands to it -/
structure Clause (X : Cx) (t : Expr) (m : Value → Option Bool) : Prop where
  run : ∀ (a : Addr) (pn : List (Addr × Obj)) (σ : L2.St) (H : Hp) (s : Shared) (cls : Value) (b : Bool) (Q : Bool → Shared → Prop) (E : Value → Shared → Prop), Inv (X.suite a pn) [] σ H s → PySem.W.Looks (model X.prog X.w) s.heap (typeOf (.ref a)) cls → m cls = some b →
    (∀ h', (∀ q u, s.heap.get? q = some u → h'.get? q = some u) → Q b { s with heap := h' }) →
    wpAny (model X.prog X.w) (X.A.mark (some (.ref a))) (eval t X.env) (fun c s1 => wpAny (model X.prog X.w) (X.A.mark (some (.ref a))) (excMatches (.ref a) c) Q E s1) E s
theorem clause1 {x : Str} {np : Pos} {c : Value} (hc : Names X x c) : Clause X (.Name x np) (fun cls => PySem.W.exmOne X.K cls c) := ⟨fun a pn σ H s cls b Q E I LT hm q => by
  have LM := PySem.W.exm_one (M := model X.prog X.w) I.kIn LT hm
  have fin : wpAny (model X.prog X.w) (X.A.mark (some (.ref a))) (excMatches (.ref a) c) Q E s := LM.here (q s.heap fun _ _ z => z)
  obtain ⟨hg, hd, h1 | ⟨h1, h2, h3⟩⟩ := hc
  · exact ld_glob (X := X.suite a pn) I hg h1 fin hd
  · exact ld_blt (X := X.suite a pn) I hg h1 h2 fin h3 hd⟩
theorem clause3 {x1 x2 x3 : Str} {c1 c2 c3 : Value} {p1 p2 p3 tp : Pos} {kk : Nat} (g1 : Gl X x1) (m1 : X.mg x1 = some c1) (g2 : Gl X x2) (m2 : X.mg x2 = some c2) (g3 : Gl X x3) (m3 : X.mg x3 = some c3)
    (d1 : (x1 == ("__debug__" : Str)) = false := by decide) (d2 : (x2 == ("__debug__" : Str)) = false := by decide) (d3 : (x3 == ("__debug__" : Str)) = false := by decide) :
    Clause X (.Tuple [.Name x1 p1, .Name x2 p2, .Name x3 p3] kk tp) (fun cls => PySem.W.exmAny X.K cls [c1, c2, c3]) := ⟨fun a pn σ H s cls b Q E I LT hm q => by
  have S : Inv (X.suite a pn) [] σ H s := I
  refine wpAny_Tuple (wpAny_items_cons (ld_glob (X := X.suite a pn) S g1 m1 (wpAny_items_cons (ld_glob (X := X.suite a pn) S g2 m2 (wpAny_items_cons (ld_glob (X := X.suite a pn) S g3 m3 (wpAny_items_nil ⟨by size_fits, ?_⟩) d3)) d2)) d1))
  have kp : ∀ q o, s.heap.get? q = some o → (s.heap.push { cls := .type "tuple", data := .seq [c1, c2, c3].toArray }).get? q = some o := fun _ _ z => Heap.get?_push_of_some _ z
  exact (PySem.W.exm_tup3 (M := model X.prog X.w) (I.kIn.keeps kp) (LT.keeps kp) (Heap.get?_push_size s.heap rfl) hm).here (q _ kp)⟩
theorem flying_keeps {B h h' : Heap} {l : List Env} {Z : Obj → Prop} (k : ∀ b o, h.get? b = some o → h'.get? b = some o) (f : HandSPX.FlyingZ B l a Z h) : HandSPX.FlyingZ B l a Z h' := by
  obtain ⟨f1, f2, f3, oe, vs, T, oT, ts, t1, t2, t3, t4, t5, t6, t7, t8, t9⟩ := f
  exact ⟨fun b o e => k b o (f1 b o e), f2, Heap.FunFrames.of_keeps (fun b o e _ => ⟨o, k b o e, rfl⟩) f3, oe, vs, T, oT, ts, k _ _ t1, t2, t3, t4, t5, t6, k _ _ t7, t8, t9⟩
end
/-- what the clause wishes of an exception of the body: slot i gets it, tracked -/
def wTry (m : Value → Option Bool) (i : Nat) (ts : TS) (Wout : WX) (D : Ends) : WX := fun cls d σ H =>
  ∃ b, m cls = some b ∧ (b = true → ∀ a, H a = none → ∃ (C dd : Addr), cls = .ref C ∧ d = some dd ∧
    ts { nx := fun σ' H' => D.nx (σ'.set i none) H', rt := D.rt, bk := fun σ' H' => D.bk (σ'.set i none) H', ct := fun σ' H' => D.ct (σ'.set i none) H' } (σ.set i (some (.ref a))) (upd H a (exv a C dd))) ∧ (b = false → Wout cls d σ H)
section
variable {X : Cx} {t : Expr} {n : Str} {m : Value → Option Bool} {i : Nat} {body suite : List Stmt} {b₀ : Stmt} {pos pos' : Pos} {tb : WX → TS} {ts : TS} {Wout : WX}
theorem ps_tryE (hs : X.stack = X.env :: X.outer) (hf : X.env.frame = some X.env.locals) (hN : X.N.Nodup) (hi : X.N[i]? = some n) (hln : X.env.kindOf n = some .local) (hex : X.ex = []) (cl : Clause X t m) (tk : Takes X Wout)
    (hb : ∀ (W : WX) (pn : List (Addr × Obj)) (xe : Value → Shared → Prop), Takes (X.tr pn xe) W → PassesOwn (model X.prog X.w) X.A X.env xe → PSs (X.tr pn xe) body (tb W)) (hsu : ∀ (a : Addr) (pn : List (Addr × Obj)), PSs (X.suite a pn) (b₀ :: suite) ts) :
    PS X (.Try body [.ExceptHandler (some t) (some n) (b₀ :: suite) pos'] [] [] pos) (fun D σ H => tb (wTry m i ts Wout D) D σ H) := by
  refine ⟨fun pins s σ H D I h => ?_⟩
  have ok := I.ok
  have hfr : X.A.frames = some (X.env :: X.outer) := by rw [ok.frames, hs]
  have hloc : Loc X.env.scope n := .inl hln
  let xe' : Value → Shared → Prop := fun e s₁ => wpAny (model X.prog X.w) X.A (noteFrame e X.env) (fun _ s₂ => wpAny (model X.prog X.w) X.A (setFlight e none) (fun _ s₃ => wpAny (model X.prog X.w) X.A (handleBy e X.env [.ExceptHandler (some t) (some n) (b₀ :: suite) pos']) (SP X pins D) X.xe s₃) X.xe s₂) X.xe s₁
  have hbody := (hb (wTry m i ts Wout D) (X.pn ++ pins) xe' (fun u s' xx => ?_) PassesOwn.looking).run [] s σ H D (I.toTry _) h
  · refine wpAny_Try_except (wpAny_mono hbody (fun f s1 hsp => ?_) (fun e s1 he => he))
    cases f with
    | next => obtain ⟨σ', H', J', q⟩ := hsp; exact wpAny_execs_nil ⟨σ', H', J'.ofTry ok, q⟩
    | brk => obtain ⟨σ', H', J', q⟩ := hsp; exact ⟨σ', H', J'.ofTry ok, q⟩
    | cont => obtain ⟨σ', H', J', q⟩ := hsp; exact ⟨σ', H', J'.ofTry ok, q⟩
    | ret u => obtain ⟨v, σ', H', J', r, q⟩ := hsp; exact ⟨v, σ', H', J'.ofTry ok, r, q⟩
  obtain ⟨a, B, sI, pins', σ', H', cls, d, rfl, J', nb, up, sky, na, os, ag, b, hb1, hyes, hno⟩ := xx
  have J : Inv X pins σ' H' sI := J'.ofTry ok
  have sky' : Sky B (X.env :: X.outer) a (Zc cls d) X.env.locals s'.heap := by rw [← hs]; exact sky
  show wpAny (model X.prog X.w) X.A (noteFrame (.ref a) X.env) _ _ _
  refine Sky.land Zc.steady hfr hf sky' fun h3 fl3 up3 => ?_
  have landed : ∀ {h : Heap}, HandSPX.FlyingZ B (X.env :: X.outer) a (Zc cls d) h → sI.heap.UpToSlots h → Inv X pins σ' H' { s' with heap := h } := fun fl u => J.landed nb fl.1 u os ag
  have J3 := landed fl3 (up.trans up3)
  -- the exception's object: new, no frame, no cell
  have there : ∀ {h : Heap}, HandSPX.FlyingZ B (X.env :: X.outer) a (Zc cls d) h → ∃ oe vs, h.get? a = some oe ∧ Zc cls d oe ∧ oe.data = .fields vs ∧ a ∉ frs (X.env :: X.outer) := fun {h} fl => by
    obtain ⟨oe, vs, e1, e2, e3⟩ := fl.there
    refine ⟨oe, vs, e1, e2, e3, fun hm => ?_⟩
    obtain ⟨_, o', e', hnf⟩ := fl.2.2.1.mem hm
    rw [e1] at e'; cases e'
    exact hnf _ e3
  obtain ⟨oe3, vs3, he3, hz3, hd3, nfr⟩ := there fl3
  have nL : a ≠ X.env.locals := fun z => nfr (List.mem_filterMap.mpr ⟨X.env, List.mem_cons_self, by rw [hf, z]⟩)
  have gone : ∀ {o : Obj}, sI.heap.get? a ≠ some o := fun {o} e => by
    have y := nb a o e (by rw [hs]; exact nfr)
    rw [fl3.2.1] at y; cases y
  have h0 : X.s_0.heap.get? a = none := by
    cases e : X.s_0.heap.get? a with
    | none => rfl
    | some o =>
      obtain ⟨o', e'⟩ := J.base.there a o e (by rw [hex]; simp)
      exact (gone e').elim
  have np : ∀ p ∈ X.pn ++ pins, p.1 ≠ a := fun p hp z => by
    have y := (J.pin p hp).1
    rw [z] at y
    exact gone y
  have toS : ∀ {pn' : List (Addr × Obj)} {σ0 : L2.St} {H0 : Hp} {s0 : Shared}, Inv X pins σ0 H0 s0 → Inv (X.suite a (X.pn ++ pins)) [] σ0 H0 s0 := fun {_ σ0 H0 s0} J0 =>
    ⟨J0.ok.suite _ _, J0.os, J0.bare, J0.base, J0.loc, J0.cell, J0.free, J0.freeC, fun p hp => J0.pin p (by rw [List.append_nil] at hp; exact hp), J0.hok, J0.len⟩
  have ofS : ∀ {σ0 : L2.St} {H0 : Hp} {s0 : Shared}, Inv (X.suite a (X.pn ++ pins)) [] σ0 H0 s0 → Inv X pins σ0 H0 s0 := fun {σ0 H0 s0} J0 =>
    ⟨ok, J0.os, J0.bare, J0.base, J0.loc, J0.cell, J0.free, J0.freeC, fun p hp => J0.pin p (by rw [List.append_nil]; exact hp), J0.hok, J0.len⟩
  have LT : PySem.W.Looks (model X.prog X.w) h3 (typeOf (.ref a)) cls := fun A Q E s k q => wpAny_typeOf_ref (k _ _ he3) (by rw [hz3.1]; exact q)
  refine wpAny_handleBy_cons (codeAny_handlers_test (cl.run a (X.pn ++ pins) σ' H' _ cls b _ _ (toS (pn' := []) J3) LT hb1 fun h3' kp => ?_)) (by intro q; cases q)
  have fl3' := flying_keeps kp fl3
  have up3' : sI.heap.UpToSlots h3' := (up.trans up3).trans (Heap.UpToSlots.of_keeps kp)
  cases b with
  | true =>
    refine codeAny_handlers_suite_as (HandSPX.lands_againZ fl3' fun h4 fl4 up4 => ?_)
    have J4 := landed fl4 (up3'.trans up4)
    obtain ⟨oe4, vs4, he4, hz4, hd4, _⟩ := there fl4
    obtain ⟨C, dd, ec, ed, hq⟩ := hyes rfl a na
    subst ec ed
    have T4 : Inv X pins σ' (upd H' a (exv a C dd)) { s' with heap := h4 } := Inv.track J4 na h0 he4 (fun v z => by rw [hd4] at z; cases z) nL np (exv_ok he4 hz4.1 hz4.2 hd4)
    refine store_ok (X := X.suite a (X.pn ++ pins)) (v := .ref a) (toS (pn' := []) T4) hN hi hloc rfl (fun s5 S5 => ?_) (.inr hln)
    refine wpAny_mono ((hsu a (X.pn ++ pins)).run [] s5 _ _ _ S5 hq) (fun f s6 hsp => ?_) (fun _ _ z => False.elim z)
    have end_ : ∀ {σ6 : L2.St} {H6 : Hp} {Q : Shared → Prop}, Inv (X.suite a (X.pn ++ pins)) [] σ6 H6 s6 → (∀ s7, Inv X pins (σ6.set i none) H6 s7 → Q s7) →
        wpAny (model X.prog X.w) X.A (do bindName X.env n .none; unbindBehindTheSuite X.env n pos') (fun _ s7 => Q s7) X.xe s6 := fun {σ6 H6 Q} S6 hq => gone_ok (ofS S6) hN hi hln hq
    cases f with
    | next => obtain ⟨σ6, H6, S6, q6⟩ := hsp; exact end_ S6 fun s7 J7 => ⟨_, _, J7, q6⟩
    | brk => obtain ⟨σ6, H6, S6, q6⟩ := hsp; exact end_ S6 fun s7 J7 => ⟨_, _, J7, q6⟩
    | cont => obtain ⟨σ6, H6, S6, q6⟩ := hsp; exact end_ S6 fun s7 J7 => ⟨_, _, J7, q6⟩
    | ret u => obtain ⟨v6, σ6, H6, S6, r6, q6⟩ := hsp; exact end_ S6 fun s7 J7 => ⟨_, _, _, J7, r6, q6⟩
  | false =>
    show wpAny _ X.A (handleBy (.ref a) X.env []) _ _ _
    refine wpAny_handleBy_nil ?_
    obtain ⟨k1, k2, k3, oe, vs, T, oT, ts', he, hz, hd, h1, hr⟩ := id fl3'
    unfold PySem.passOn
    refine wpAny_bind (wpAny_field he hd h1 ?_)
    rw [if_neg (show ¬ ((Value.ref T == Value.none) = true) from by simp)]
    have fin : wpAny (model X.prog X.w) X.A (setFlight (.ref a) X.env.frame) (fun _ s4 => wpAny (model X.prog X.w) X.A (throw (.ref a) : Sem Flow) (SP X pins D) X.xe s4) X.xe { s' with heap := h3' } := by
      rw [hf]
      exact HandSPX.setFlight_upZ fl3' fun h4 hh4 up4 => wpAny_throw (tk _ _ ⟨a, B, sI, pins, σ', H', cls, d, rfl, J, nb, up3'.trans up4, .inr (.inr (by rw [hs]; exact hh4)), na, os, ag, hno rfl⟩)
    first
      | exact wpAny_bind (wpAny_pure (wpAny_bind fin))
      | exact wpAny_bind fin
end
end DL

set_option Elab.async false
set_option linter.all false
set_option maxRecDepth 100000
set_option maxHeartbeats 4000000
/-! DX6: try .. except as over data. -/
namespace DL
open PySem PySem.Spec PyProof.Rows L2
section
variable {X : Cx} {c : Fc} {F H : Hp} {σ : L2.St} {ρ : Sls} {t : Expr} {n : Str} {m : Value → Option Bool} {i : Nat} {body suite : List Stmt} {b₀ : Stmt} {pos pos' : Pos} {gb gs : M Out} {cat : Str → Option Bool}
/-- other wishes of exceptions -/
def Fc.wish (c : Fc) (W : WX) : Fc := ⟨c.K, c.mg, c.T, c.G, c.F0, c.B, W⟩
theorem R.wish {W : WX} (r : R c F H σ ρ) : R (c.wish W) F H σ ρ := ⟨r.sub, r.ent, r.tab, r.ft, r.dom, r.frz, r.bor, r.len, fun i => by
  have x := r.sl i
  revert x
  cases ρ[i]? with
  | none => exact fun _ => True.intro
  | some s => cases s <;> exact fun x => x, r.one, r.own⟩
theorem R.unwish {W : WX} (r : R (c.wish W) F H σ ρ) : R c F H σ ρ := ⟨r.sub, r.ent, r.tab, r.ft, r.dom, r.frz, r.bor, r.len, fun i => by
  have x := r.sl i
  revert x
  cases ρ[i]? with
  | none => exact fun _ => True.intro
  | some s => cases s <;> exact fun x => x, r.one, r.own⟩
def M.tryAs (i : Nat) (cat : Str → Option Bool) (gb gs : M Out) : M Out := fun ρ => match gb ρ with
  | .er cn fs ρ' => match cat cn with
    | some true => match gs (ρ'.set i (.im (.ex cn fs))) with
      | .ok o ρ2 => .ok o (ρ2.set i .un)
      | _ => .no
    | some false => .er cn fs ρ'
    | none => .no
  | r => r
theorem ds_try (hs : X.stack = X.env :: X.outer) (hf : X.env.frame = some X.env.locals) (hN : X.N.Nodup) (hi : X.N[i]? = some n) (hln : X.env.kindOf n = some .local) (hex : X.ex = []) (fx : FitT X c) (cl : Clause X t m) (hcat : ∀ (cn : Str) (C : Addr) (b : Bool), X.mg cn = some (.ref C) → cat cn = some b → m (.ref C) = some b)
    (hb : ∀ (c' : Fc) (pn : List (Addr × Obj)) (xe : Value → Shared → Prop), FitT (X.tr pn xe) c' → c'.T = c.T → PassesOwn (model X.prog X.w) X.A X.env xe → DSs (X.tr pn xe) c' body gb)
    (hsu : ∀ (c' : Fc) (a : Addr) (pn : List (Addr × Obj)), Fit (X.suite a pn) c' → c'.T = c.T → DSs (X.suite a pn) c' (b₀ :: suite) gs) :
    DS X c (.Try body [.ExceptHandler (some t) (some n) (b₀ :: suite) pos'] [] [] pos) (M.tryAs i cat gb gs) :=
  PSw (ps_tryE (tb := fun W => tSt (c.wish W) gb) (ts := tSt (c.wish fun _ _ _ _ => False) gs) hs hf hN hi hln hex cl fx.tk (fun W pn xe tk po => hb (c.wish W) pn xe ⟨fx.k, fx.mg, tk⟩ rfl po)
    (fun a pn => hsu (c.wish fun _ _ _ _ => False) a pn ⟨fx.k, fx.mg, takes0, fun _ _ _ _ _ z => z⟩ rfl)) fun D σ H ⟨F, ρ, rr, h⟩ => by
  refine ⟨F, ρ, rr.wish, ?_⟩
  unfold M.tryAs at h
  cases e : gb ρ with
  | ok o ρ' =>
    rw [e] at h
    cases o with
    | nx => exact fun σ' F' H' r l => h σ' F' H' r.unwish l
    | rt d => exact fun σ' v F' H' r l t => h σ' v F' H' r.unwish l t
    | bk => exact fun σ' F' H' r l => h σ' F' H' r.unwish l
    | ct => exact fun σ' F' H' r l => h σ' F' H' r.unwish l
  | no => rw [e] at h; exact False.elim h
  | er cn fs ρ' =>
    rw [e] at h
    dsimp only at h
    intro C dd σ' F' H' fv mC r l e1 e2 e3
    have mC' : X.mg cn = some (.ref C) := by rw [fx.mg]; exact mC
    cases ec : cat cn with
    | none => rw [ec] at h; exact False.elim h
    | some b =>
      rw [ec] at h
      refine ⟨b, hcat cn C b mC' ec, fun hb1 a na => ?_, fun hb0 => ?_⟩
      · subst hb1
        dsimp only at h
        refine ⟨C, dd, rfl, rfl, upd F' a (exv a C dd), ρ'.set i (.im (.ex cn fs)), ?_, ?_⟩
        · have x1 : Ext c.T F' H' (upd F' a (exv a C dd)) (upd H' a (exv a C dd)) := .new r.sub na
          have dt : c.Dt (upd F' a (exv a C dd)) (.ref a) (.ex cn fs) := .ex mC upd_same (by rw [upd_ne (fun z => by have y := r.sub _ _ e1; rw [z, na] at y; cases y)]; exact e1) e2 (e3.le (x1.le r.sub))
          exact ((r.unwish.ext x1).setIm dt).wish
        · have x1 : Ext c.T F' H' (upd F' a (exv a C dd)) (upd H' a (exv a C dd)) := .new r.sub na
          have l2 := l.trans (x1.le r.sub)
          cases eg : gs (ρ'.set i (.im (.ex cn fs))) with
          | no => rw [eg] at h; exact False.elim h
          | er _ _ _ => rw [eg] at h; exact False.elim h
          | ok o ρ2 =>
            rw [eg] at h
            cases o with
            | nx => exact fun σ2 F2 H2 r2 l3 => h _ F2 H2 (r2.unwish.setUn (o := none)) (l2.trans l3)
            | rt d => exact fun σ2 v F2 H2 r2 l3 t => h (σ2.set i none) v F2 H2 r2.unwish.setUn (l2.trans l3) t
            | bk => exact fun σ2 F2 H2 r2 l3 => h _ F2 H2 (r2.unwish.setUn (o := none)) (l2.trans l3)
            | ct => exact fun σ2 F2 H2 r2 l3 => h _ F2 H2 (r2.unwish.setUn (o := none)) (l2.trans l3)
      · subst hb0
        exact h C dd σ' F' H' fv mC r.unwish l e1 e2 e3
end
end DL

set_option Elab.async false
set_option linter.all false
set_option maxRecDepth 100000
set_option maxHeartbeats 4000000
/-! DT: readings found by search. -/
namespace DL
open PySem PySem.Spec PyProof.Rows L2
section
variable {X : Cx} {c : Fc} {F H : Hp} {σ : L2.St} {ρ : Sls} {a b e : Expr} {fa fb fe : M D} {es : List Expr} {fs : M (List D)} {pos p : Pos} {x : Str} {T : List (Addr × Str)}
/-- two ways to read the same; the second where the first says nothing -/
def M.alt {α : Type} (f g : M α) : M α := fun ρ => match f ρ with
  | .no => g ρ
  | r => r
theorem de_alt {f g : M D} (h1 : DE X c e f) (h2 : DE X c e g) : DE X c e (f.alt g) := ⟨fun pins s σ H Q I ⟨F, ρ, r, h⟩ => by
  unfold M.alt at h
  cases q : f ρ with
  | no => rw [q] at h; exact h2.run pins s σ H Q I ⟨F, ρ, r, h⟩
  | ok _ _ => rw [q] at h; exact h1.run pins s σ H Q I ⟨F, ρ, r, by rw [q]; exact h⟩
  | er _ _ _ => rw [q] at h; exact h1.run pins s σ H Q I ⟨F, ρ, r, by rw [q]; exact h⟩⟩
theorem di_alt {tg : Expr} {f g : M (List D)} (h1 : DI X c tg e f) (h2 : DI X c tg e g) : DI X c tg e (f.alt g) := ⟨fun pins s σ H Q I ⟨F, ρ, r, h⟩ => by
  unfold M.alt at h
  cases q : f ρ with
  | no => rw [q] at h; exact h2.run pins s σ H Q I ⟨F, ρ, r, h⟩
  | ok _ _ => rw [q] at h; exact h1.run pins s σ H Q I ⟨F, ρ, r, by rw [q]; exact h⟩
  | er _ _ _ => rw [q] at h; exact h1.run pins s σ H Q I ⟨F, ρ, r, by rw [q]; exact h⟩⟩
theorem ds_alt {st : Stmt} {f g : M Out} (h1 : DS X c st f) (h2 : DS X c st g) : DS X c st (f.alt g) := ⟨fun pins s σ H D I ⟨F, ρ, r, h⟩ => by
  unfold M.alt at h
  cases q : f ρ with
  | no => rw [q] at h; exact h2.run pins s σ H D I ⟨F, ρ, r, h⟩
  | ok _ _ => rw [q] at h; exact h1.run pins s σ H D I ⟨F, ρ, r, by rw [q]; exact h⟩
  | er _ _ _ => rw [q] at h; exact h1.run pins s σ H D I ⟨F, ρ, r, by rw [q]; exact h⟩⟩
/-- a def of the text, its promise over data -/
structure Cal (P : Program) (w : World) (K : PySem.W.Frag) (mg : Str → Option Value) (base : Heap) (T : List (Addr × Str)) (x : Str) (k n : Nat) (fn : List D → Res D) : Prop where
  ex : ∃ f fd ps, mg x = some (.ref f) ∧ FnOk P w K mg base (L2.CX P w) k f fd ps (spD K mg T n fn) ∧ PySem.W.keepIn K (.ref f) = true ∧ Binds K fd ps []
/-- .. one that changes its first argument -/
structure CalO (P : Program) (w : World) (K : PySem.W.Frag) (mg : Str → Option Value) (base : Heap) (T : List (Addr × Str)) (x : Str) (k n : Nat) (fn : D → List D → Res (D × D)) : Prop where
  ex : ∃ f fd ps, mg x = some (.ref f) ∧ FnOk P w K mg base (L2.CX P w) k f fd ps (spB K mg T n fn) ∧ PySem.W.keepIn K (.ref f) = true ∧ Binds K fd ps []
/-- a constant of the module -/
structure Con (K : PySem.W.Frag) (mg : Str → Option Value) (x : Str) (d : D) : Prop where
  ex : ∃ v u, mg x = some u ∧ RelV v u ∧ ∀ F, Dt K mg F v d
theorem de_con {d : D} (fx : Fit X c) (h : Con X.K X.mg x d) (hg : Gl X x) (hd : (x == ("__debug__" : Str)) = false := by decide) : DE X c (.Name x pos) (M.ret d) := by
  obtain ⟨v, u, hm, r, t⟩ := h.ex
  exact de_glob hg hm r (fun F => by have q := t F; rw [fx.k, fx.mg] at q; exact q) hd
theorem de_callC {k j n : Nat} {fn : List D → Res D} (fx : Fit X c) (hT : c.T = T) (h : Cal X.prog X.w X.K X.mg X.base T x k n fn) (hr : Room j X.A) (hj : k ≤ j) (hg : Gl X x) (ha : DA X c (a :: es) fs)
    (hdb : (x == ("__debug__" : Str)) = false := by decide) (he : starEach (a :: es) X.env = (false, eval a X.env) :: starEach es X.env := by rfl) (hpl : (backTo pos (starEach es X.env)).any (·.1) = false := by rfl) :
    DE X c (.Call (.Name x p) (a :: es) [] pos) (fs.bind (M.call n fn)) := by
  subst hT
  obtain ⟨f, fd, ps, hm, Fn, hk, hb⟩ := h.ex
  exact de_call fx Fn (hr.mono hj) hg hm hk hb ha hdb he hpl
theorem de_callOC {i k j n : Nat} {y : Str} {py : Pos} {fn : D → List D → Res (D × D)} (fx : Fit X c) (hT : c.T = T) (h : CalO X.prog X.w X.K X.mg X.base T x k n fn) (hr : Room j X.A) (hj : k ≤ j) (hg : Gl X x) (hN : X.N[i]? = some y) (hv : Vis X.env.scope y) (ha : DA X c es fs)
    (hdb : (x == ("__debug__" : Str)) = false := by decide) (hd : (y == ("__debug__" : Str)) = false := by decide) (hcd : (y == ("__classdict__" : Str)) = false := by decide)
    (he : starEach (.Name y py :: es) X.env = (false, eval (.Name y py) X.env) :: starEach es X.env := by rfl) (hpl : (backTo pos (starEach es X.env)).any (·.1) = false := by rfl) :
    DE X c (.Call (.Name x p) (.Name y py :: es) [] pos) (M.callO i n fn fs) := by
  subst hT
  obtain ⟨f, fd, ps, hm, Fn, hk, hb⟩ := h.ex
  exact de_callO fx Fn (hr.mono hj) hg hm hk hb hN hv ha hdb hd hcd he hpl
theorem de_isiC {ins exc : List Str} {kt : DL.KT} (fx : Fit X c) (kk : DL.Kinds X.K X.mg ins exc) (ok : KtOk X.K X.mg kt) (hg : Gl X "isinstance") (hm : X.mg "isinstance" = none) (ha : DA X c [a, b] fs)
    (he : starEach [a, b] X.env = (false, eval a X.env) :: starEach [b] X.env := by rfl) (hpl : (backTo pos (starEach [b] X.env)).any (·.1) = false := by rfl) :
    DE X c (.Call (.Name "isinstance" p) [a, b] [] pos) (fs.bind (g2 (isiD ins exc kt))) := de_isi fx (by rw [← fx.k, ← fx.mg]; exact kk) (by rw [← fx.k, ← fx.mg]; exact ok) hg hm ha he hpl
end
/-- a block's names, looked at -/
def blkB (N : List Str) (sc scope : Scope) (own : List (Str × Nat)) : Bool :=
  decide (scope.kind = .function) && (scope.names.all fun y => decide (scope.names.lookup y.1 = some y.2)) && (own.all fun p => decide (N[p.2]? = some p.1)) &&
    (scope.names.all fun y => !decide (y.2 = .free) || decide (sc.names.lookup y.1 = some .cell) || decide (sc.names.lookup y.1 = some .free)) && scope.names.all fun y => !(decide (y.2 = .local) || decide (y.2 = .cell)) || decide (y.1 ∈ own.map (·.1)) || !decide (y.1 ∈ N)
theorem blk_by {N : List Str} {sc scope : Scope} {own : List (Str × Nat)} (h : blkB N sc scope own = true) : BlkOk N sc scope own := by
  unfold blkB at h
  simp only [Bool.and_eq_true, List.all_eq_true, decide_eq_true_eq, Bool.or_eq_true, Bool.not_eq_true', decide_eq_false_iff_not] at h
  obtain ⟨⟨⟨⟨h1, h2⟩, h3⟩, h4⟩, h5⟩ := h
  refine ⟨h1, h2, h3, fun y hy e => ?_, fun y hy e => ?_⟩
  · rcases h4 y hy with (z | z) | z
    · exact absurd e z
    · exact .inl z
    · exact .inr z
  · rcases h5 y hy with (z | z) | z
    · simp only [Bool.or_eq_false_iff, decide_eq_false_iff_not] at z
      exact (e.elim (fun w => z.1 w) fun w => z.2 w).elim
    · exact .inl z
    · exact .inr z
end DL

set_option Elab.async false
set_option linter.all false
set_option maxRecDepth 100000
set_option maxHeartbeats 4000000
/-! DU: what the text has of classes, bundled by their names. -/
namespace DL
open PySem PySem.Spec PyProof.Rows L2
/-- an own error with attributes by fD of n arguments -/
structure XcB (P : Program) (w : World) (K : PySem.W.Frag) (mg : Str → Option Value) (base : Heap) (cn : Str) (n : Nat) (fD : List D → List (Str × D)) : Prop where
  ex : ∃ C fI fd ps bmB newId fV, mg cn = some (.ref C) ∧ XCls K C fI bmB newId ∧ PySem.W.typeIn K (.ref C) = some (.type "type") ∧ Mkf n fV fD ∧ FnOk P w K mg base (L2.CX P w) 1 fI fd ps (spX C n fV) ∧ Binds K fd ps [] ∧ ps.length = n + 1 ∧ n ≤ 1000
/-- an attribute f of the class cn, no class of it has the name -/
structure FlB (K : PySem.W.Frag) (mg : Str → Option Value) (cn f : Str) : Prop where
  ex : ∃ C, mg cn = some (.ref C) ∧ Cls K C ∧ NoAttr K C f
/-- a property f of the class cn -/
structure PrB (P : Program) (w : World) (K : PySem.W.Frag) (mg : Str → Option Value) (base : Heap) (T : List (Addr × Str)) (cn f : Str) (k : Nat) (fn : List D → Res D) : Prop where
  ex : ∃ C pa g fd ps, mg cn = some (.ref C) ∧ Cls K C ∧ PropOf K C f pa g ∧ FnOk P w K mg base (L2.CX P w) k g fd ps (spD K mg T 1 fn) ∧ Binds K fd ps []
/-- the class cn, made by an __init__ of n parameters -/
structure MkB (P : Program) (w : World) (K : PySem.W.Frag) (mg : Str → Option Value) (base : Heap) (T : List (Addr × Str)) (cn : Str) (k n : Nat) (fn : D → List D → Res (D × D)) : Prop where
  ex : ∃ C fI fd ps, mg cn = some (.ref C) ∧ Mk K C fI ∧ FnOk P w K mg base (L2.CX P w) k fI fd ps (spB K mg T n fn) ∧ Binds K fd ps []
section
variable {X : Cx} {c : Fc} {F H : Hp} {σ : L2.St} {ρ : Sls} {a b e : Expr} {fa fb fe : M D} {es : List Expr} {fs : M (List D)} {pos p p1 p2 p' : Pos} {x cn f : Str} {T : List (Addr × Str)} {i j k n : Nat}
theorem ds_raisC {fD : List D → List (Str × D)} (hcalm : X.calm = true) (fx : FitT X c) (h : XcB X.prog X.w X.K X.mg X.base cn n fD) (hr : Room j X.A) (hj : 2 ≤ j) (hg : Gl X cn) (ha : DA X c (a :: es) fs)
    (hdb : (cn == ("__debug__" : Str)) = false := by decide) (he : starEach (a :: es) X.env = (false, eval a X.env) :: starEach es X.env := by rfl) (hpl : (backTo p2 (starEach es X.env)).any (·.1) = false := by rfl) :
    DS X c (.Raise (some (.Call (.Name cn p) (a :: es) [] p2)) none pos) (M.rais n cn fD fs) := by
  obtain ⟨C, fI, fd, ps, bmB, newId, fV, hm, T, ty, K, Fn, hb, hl, hn⟩ := h.ex
  exact ds_rais hcalm fx K T ty Fn (hr.mono hj) hb hl hn hg hm ha hdb he hpl
theorem de_fldC (fx : Fit X c) (h : FlB X.K X.mg cn f) (ha : DE X c a fa) (hb : attributeBase a f X.env (eval a X.env) = eval a X.env := by rfl) : DE X c (.Attribute a f pos) (M.fld cn fa f) := by
  obtain ⟨C, hm, cl, na⟩ := h.ex
  exact de_fld fx hm cl na ha hb
theorem de_fldOC (fx : Fit X c) (h : FlB X.K X.mg cn f) (hN : X.N[i]? = some x) (hv : Vis X.env.scope x) (hd : (x == ("__debug__" : Str)) = false := by decide) (hcd : (x == ("__classdict__" : Str)) = false := by decide)
    (hb : attributeBase (.Name x p) f X.env (eval (.Name x p) X.env) = eval (.Name x p) X.env := by rfl) : DE X c (.Attribute (.Name x p) f pos) (M.fldO cn i f) := by
  obtain ⟨C, hm, cl, na⟩ := h.ex
  exact de_fldO fx hm cl na hN hv hd hcd hb
theorem ds_setFC (fx : Fit X c) (h : FlB X.K X.mg cn f) (hN : X.N[i]? = some x) (hv : Vis X.env.scope x) (he : DE X c e fe) (hd : (x == ("__debug__" : Str)) = false := by decide) (hcd : (x == ("__classdict__" : Str)) = false := by decide)
    (hs : swapsWith e (some (.Attribute (.Name x p) f p')) pos.line X.env = pure false := by rfl) : DS X c (.Assign [.Attribute (.Name x p) f p'] e pos) (M.setF cn i f fe) := by
  obtain ⟨C, hm, cl, na⟩ := h.ex
  exact ds_setF fx hm cl na hN hv he hd hcd hs
theorem de_propC {fn : List D → Res D} (fx : Fit X c) (hT : c.T = T) (h : PrB X.prog X.w X.K X.mg X.base T cn f k fn) (hr : Room j X.A) (hj : k + 1 ≤ j) (ha : DE X c a fa) (hab : attributeBase a f X.env (eval a X.env) = eval a X.env := by rfl) : DE X c (.Attribute a f pos) (M.prop cn fn fa) := by
  subst hT
  obtain ⟨C, pa, g, fd, ps, hm, cl, hp, Fn, hb⟩ := h.ex
  exact de_prop fx hm cl hp Fn (hr.mono hj) hb ha hab
theorem de_mkC {fn : D → List D → Res (D × D)} (fx : Fit X c) (hT : c.T = T) (h : MkB X.prog X.w X.K X.mg X.base T cn k n fn) (hr : Room j X.A) (hj : k + 1 ≤ j) (hg : Gl X cn) (ha : DA X c (a :: es) fs)
    (hdb : (cn == ("__debug__" : Str)) = false := by decide) (he : starEach (a :: es) X.env = (false, eval a X.env) :: starEach es X.env := by rfl) (hpl : (backTo pos (starEach es X.env)).any (·.1) = false := by rfl) :
    DE X c (.Call (.Name cn p) (a :: es) [] pos) (M.mk n cn fn fs) := by
  subst hT
  obtain ⟨C, fI, fd, ps, hm, mk, Fn, hb⟩ := h.ex
  exact de_mk fx mk Fn (hr.mono hj) hg hm hb ha hdb he hpl
theorem de_mkLC {fn : D → List D → Res (D × D)} (fx : Fit X c) (hT : c.T = T) (h : MkB X.prog X.w X.K X.mg X.base T cn k n fn) (hr : Room j X.A) (hj : k + 1 ≤ j) (hN : X.N[i]? = some x) (hv : Vis X.env.scope x) (ha : DA X c (a :: es) fs)
    (hdb : (x == ("__debug__" : Str)) = false := by decide) (hcd : (x == ("__classdict__" : Str)) = false := by decide) (he : starEach (a :: es) X.env = (false, eval a X.env) :: starEach es X.env := by rfl) (hpl : (backTo pos (starEach es X.env)).any (·.1) = false := by rfl) :
    DE X c (.Call (.Name x p) (a :: es) [] pos) (M.mkL i n cn fn fs) := by
  subst hT
  obtain ⟨C, fI, fd, ps, hm, mk, Fn, hb⟩ := h.ex
  exact de_mkL fx mk Fn (hr.mono hj) hm hb hN hv ha hdb hcd he hpl
end
end DL

set_option Elab.async false
set_option linter.all false
set_option maxRecDepth 100000
set_option maxHeartbeats 4000000
/-! DV: repr of data, where no repr is under way. -/
namespace DL
open PySem PySem.Spec PyProof.Rows L2
/-- the text of a datum, if it is one that repr shows and it isn't too long or deep -/
def shownD (d : D) : Option Str := match toPy d with
  | some p => if (p.showable && !p.hasDict && decide (p.depth < 50) && decide (p.shown.length ≤ 16777216)) = true then some p.shown else none
  | none => none
theorem shownD_of {d : D} {x : Str} (h : shownD d = some x) : ∃ p, toPy d = some p ∧ p.showable = true ∧ p.hasDict = false ∧ p.depth < 50 ∧ p.shown.length ≤ sizeLine ∧ x = p.shown := by
  unfold shownD at h
  cases e : toPy d with
  | none => rw [e] at h; cases h
  | some p =>
    rw [e] at h
    dsimp only at h
    split at h
    · rename_i q
      simp only [Bool.and_eq_true, Bool.not_eq_true', decide_eq_true_eq] at q
      obtain ⟨⟨⟨q1, q2⟩, q3⟩, q4⟩ := q
      exact ⟨p, rfl, q1, q2, q3, by rw [line_eq]; exact q4, (Option.some.inj h).symm⟩
    · cases h
def reprD (d : D) : M D := M.of ((shownD d).map .str)
/-- what repr shows of a value that stands for data -/
def rRepr (K : PySem.W.Frag) : List V → Hp → VK → Prop := fun xs H Q => ∃ v p, xs = [v] ∧ Dp K H v p ∧ p.showable = true ∧ p.hasDict = false ∧ p.depth < 50 ∧ p.shown.length ≤ sizeLine ∧ Q (.str p.shown) H
section
variable {X : Cx} {c : Fc} {F H : Hp} {σ : L2.St} {ρ : Sls} {a b e : Expr} {fs : M (List D)} {pos p : Pos} {k : Nat}
theorem call_repr (hg : X.A.guards = some []) (hr : Room k X.A) : CallR X (.builtin "repr") (rRepr X.K) := by
  intro pins s σ H xs us Q I r h
  obtain ⟨v, p, rfl, dp, h1, h2, h3, h4, q⟩ := h
  cases r with
  | @cons _ u _ us rv rr =>
    cases rr
    obtain ⟨as, rd⟩ := Dp.reads I p v u dp rv
    have hu : X.A.units + (p.depth + 1) < cLine := by have := hr.un; omega
    cases rd with
    | none => exact PySem.P.repr_of_none ⟨.str _, H, I.tok _, ⟨_, rfl⟩, q⟩
    | bool b => exact PySem.P.repr_of_bool ⟨.str _, H, I.tok _, ⟨_, rfl⟩, q⟩
    | int i t => exact PySem.P.repr_of_int (of_decide_eq_true h1) ⟨.str _, H, I.tok _, ⟨_, rfl⟩, q⟩
    | str x t => exact PySem.P.repr_of_str (h := ⟨.str _, H, I.tok _, ⟨_, rfl⟩, q⟩) (hsz := h4)
    | list e1 e2 e3 e4 => exact repr_of_reads' (.list e1 e2 e3 e4) h1 (PyData.noDict_hsm h2) hg hu (fun _ _ e => e) (fun h' u tk hk => ⟨.str _, H, I.kept hk, ⟨_, rfl⟩, q⟩) h4
    | tuple e1 e2 e3 e4 => exact repr_of_reads' (.tuple e1 e2 e3 e4) h1 (PyData.noDict_hsm h2) hg hu (fun _ _ e => e) (fun h' u tk hk => ⟨.str _, H, I.kept hk, ⟨_, rfl⟩, q⟩) h4
    | dict _ _ _ _ _ => cases h2
theorem de_repr (fx : Fit X c) (hgd : X.A.guards = some []) (hr : Room k X.A) (hg : Gl X "repr") (hm : X.mg "repr" = none) (ha : DA X c [a] fs) (he : starEach [a] X.env = (false, eval a X.env) :: starEach [] X.env := by rfl) (hpl : (backTo pos (starEach [] X.env)).any (·.1) = false := by rfl) :
    DE X c (.Call (.Name "repr" p) [a] [] pos) (fs.bind (g1 reprD)) :=
  de_callB (call_repr hgd hr) (call1 fun F H σ ρ x d Q rr t q => by
    obtain ⟨w, ew, q⟩ := Pst.of (o := (shownD d).map .str) q
    obtain ⟨y, ey, e2⟩ := Option.map_eq_some_iff.mp ew
    subst e2
    obtain ⟨p, e1, h1, h2, h3, h4, e3⟩ := shownD_of ey
    subst e3
    exact ⟨x, p, rfl, by rw [fx.k]; exact t.dp rr.sub e1, h1, h2, h3, h4, q.ret rr (.str _)⟩) hg hm boot_repr ha (by decide) (by decide) he hpl
end
end DL

set_option Elab.async false
set_option linter.all false
set_option maxRecDepth 100000
set_option maxHeartbeats 4000000
/-! DW: own exceptions as values and caught, bundled. -/
namespace DL
open PySem PySem.Spec PyProof.Rows L2
/-- .. whose keywords ks find the parameters by π -/
structure XkB (P : Program) (w : World) (K : PySem.W.Frag) (mg : Str → Option Value) (base : Heap) (cn : Str) (n : Nat) (ks : List Str) (π : List Nat) (fD : List D → List (Str × D)) : Prop where
  ex : ∃ C fI fd ps bmB newId fV, mg cn = some (.ref C) ∧ XCls K C fI bmB newId ∧ Mkf n fV fD ∧ FnOk P w K mg base (L2.CX P w) 1 fI fd ps (spX C n fV) ∧ KBn K fd ps 1 ks (fun us ws => us ++ pick π ws) (fun vs zs => vs ++ pick π zs)
/-- an own error made without arguments, without attributes -/
structure X0B (P : Program) (w : World) (K : PySem.W.Frag) (mg : Str → Option Value) (base : Heap) (cn : Str) : Prop where
  ex : ∃ C : Addr, mg cn = some (.ref C) ∧ ∀ (X : Cx) (p pos : Pos), X.prog = P → X.w = w → X.K = K → X.mg = mg → X.base = base → Gl X cn → Room 2 X.A → PE X (.Call (.Name cn p) [] [] pos) (fun σ H Q => ∀ a, H a = none → Q (.ref a) (upd H a (exn a C)))
/-- how the classes of errors stand to what a clause names -/
structure CatB (mg : Str → Option Value) (m : Value → Option Bool) (cat : Str → Option Bool) : Prop where
  go : ∀ (cn : Str) (C : Addr) (b : Bool), mg cn = some (.ref C) → cat cn = some b → m (.ref C) = some b
section
variable {X : Cx} {c : Fc} {F H : Hp} {σ : L2.St} {ρ : Sls} {a b e : Expr} {fa fb fe : M D} {es : List Expr} {fs : M (List D)} {pos p pos' : Pos} {x cn f : Str} {T : List (Addr × Str)} {i j k n : Nat} {kws : List Keyword} {ks : List Str} {π : List Nat} {fD : List D → List (Str × D)}
theorem de_xmkC (fx : Fit X c) (h : XcB X.prog X.w X.K X.mg X.base cn n fD) (hr : Room j X.A) (hj : 2 ≤ j) (hg : Gl X cn) (ha : DA X c (a :: es) fs)
    (hdb : (cn == ("__debug__" : Str)) = false := by decide) (he : starEach (a :: es) X.env = (false, eval a X.env) :: starEach es X.env := by rfl) (hpl : (backTo pos (starEach es X.env)).any (·.1) = false := by rfl) :
    DE X c (.Call (.Name cn p) (a :: es) [] pos) (fs.bind (M.xmk n cn fD)) := by
  obtain ⟨C, fI, fd, ps, bmB, newId, fV, hm, T, ty, K, Fn, hb, hl, hn⟩ := h.ex
  exact de_xmk fx K T Fn (hr.mono hj) hb hl hn hg hm ha hdb he hpl
theorem de_xmkKC (fx : Fit X c) (h : XkB X.prog X.w X.K X.mg X.base cn n ks π fD) (hr : Room j X.A) (hj : 2 ≤ j) (hg : Gl X cn) (ha : DK X c kws fs)
    (hall : (backToKw pos (keywordEach kws X.env)).all (·.1.isSome) = true := by rfl) (hks : (backToKw pos (keywordEach kws X.env)).filterMap (·.1) = ks := by rfl) (hdb : (cn == ("__debug__" : Str)) = false := by decide)
    (hpl : ((backTo pos (starEach [] X.env)).any (·.1) || (backToKw pos (keywordEach kws X.env)).any (·.1.isNone)) = false := by rfl) :
    DE X c (.Call (.Name cn p) [] kws pos) (fs.bind fun ds => M.grd (ds.length = ks.length) (M.xmk n cn fD (pick π ds))) := by
  obtain ⟨C, fI, fd, ps, bmB, newId, fV, hm, T, K, Fn, hb⟩ := h.ex
  exact de_xmkK fx K T Fn (hr.mono hj) hb hg hm ha hall hks hdb hpl
theorem de_x0C (fx : Fit X c) (h : X0B X.prog X.w X.K X.mg X.base cn) (hr : Room j X.A) (hj : 2 ≤ j) (hg : Gl X cn) : DE X c (.Call (.Name cn p) [] [] pos) (M.ret (.ex cn [])) := by
  obtain ⟨C, hm, go⟩ := h.ex
  refine PEw (go X p pos rfl rfl rfl rfl rfl hg (hr.mono hj)) fun σ H Q ⟨F, ρ, rr, h⟩ a ha => ?_
  have x1 : Ext c.T F H (upd F a (exn a C)) (upd H a (exn a C)) := .new rr.sub ha
  exact h _ _ _ (rr.ext x1) (x1.le rr.sub) (.ex0 (by rw [← fx.mg]; exact hm) upd_same)
/-- try: body, except x as n: suite -/
theorem ds_tryC {y n : Str} {np : Pos} {cv : Value} {body suite : List Stmt} {b₀ : Stmt} {gb gs : M Out} {cat : Str → Option Bool} (hs : X.stack = X.env :: X.outer) (hf : X.env.frame = some X.env.locals) (hN : X.N.Nodup) (hi : X.N[i]? = some n) (hln : X.env.kindOf n = some .local) (hex : X.ex = []) (fx : FitT X c)
    (hg : Gl X y) (hm : X.mg y = some cv) (hd : (y == ("__debug__" : Str)) = false) (hcat : CatB X.mg (fun cls => PySem.W.exmOne X.K cls cv) cat)
    (hb : ∀ (c' : Fc) (pn : List (Addr × Obj)) (xe : Value → Shared → Prop), FitT (X.tr pn xe) c' → c'.T = c.T → PassesOwn (model X.prog X.w) X.A X.env xe → DSs (X.tr pn xe) c' body gb)
    (hsu : ∀ (c' : Fc) (a : Addr) (pn : List (Addr × Obj)), Fit (X.suite a pn) c' → c'.T = c.T → DSs (X.suite a pn) c' (b₀ :: suite) gs) :
    DS X c (.Try body [.ExceptHandler (some (.Name y np)) (some n) (b₀ :: suite) pos'] [] [] pos) (M.tryAs i cat gb gs) :=
  ds_try hs hf hN hi hln hex fx (clause1 ⟨hg, hd, .inl hm⟩) hcat.go hb hsu
/-- a def of the text that is called where no repr is under way -/
structure CalG (P : Program) (w : World) (K : PySem.W.Frag) (mg : Str → Option Value) (base : Heap) (T : List (Addr × Str)) (x : Str) (k n : Nat) (fn : List D → Res D) : Prop where
  ex : ∃ f fd ps, mg x = some (.ref f) ∧ FnG P w K mg base k f fd ps (spD K mg T n fn) ∧ PySem.W.keepIn K (.ref f) = true ∧ Binds K fd ps []
theorem de_callGC {fn : List D → Res D} (fx : Fit X c) (hT : c.T = T) (hgd : X.A.guards = some []) (h : CalG X.prog X.w X.K X.mg X.base T x k n fn) (hr : Room j X.A) (hj : k ≤ j) (hg : Gl X x) (ha : DA X c (a :: es) fs)
    (hdb : (x == ("__debug__" : Str)) = false := by decide) (he : starEach (a :: es) X.env = (false, eval a X.env) :: starEach es X.env := by rfl) (hpl : (backTo pos (starEach es X.env)).any (·.1) = false := by rfl) :
    DE X c (.Call (.Name x p) (a :: es) [] pos) (fs.bind (M.call n fn)) := by
  subst hT
  obtain ⟨f, fd, ps, hm, Fn, hk, hb⟩ := h.ex
  exact de_callG fx Fn (hr.mono hj) hgd hg hm hk hb ha hdb he hpl
end
end DL

set_option Elab.async false
set_option linter.all false
set_option maxRecDepth 100000
set_option maxHeartbeats 4000000
/-! DY: one reading for items of lists, texts, tuples and dicts; one for what is gone through. -/
namespace DL
open PySem PySem.Spec PyProof.Rows L2
/-- says no more -/
def M.le {α : Type} (f g : M α) : Prop := ∀ ρ, f ρ = .no ∨ f ρ = g ρ
section
variable {X : Cx} {c : Fc} {a b e : Expr} {fa fb : M D} {pos p : Pos} {k : Nat}
theorem DE.less {f g : M D} (h : DE X c e g) (l : M.le f g) : DE X c e f := ⟨fun pins s σ H Q I ⟨F, ρ, r, q⟩ => by
  rcases l ρ with z | z
  · rw [z] at q; exact False.elim q
  · rw [z] at q; exact h.run pins s σ H Q I ⟨F, ρ, r, q⟩⟩
theorem DI.less {tg : Expr} {f g : M (List D)} (h : DI X c tg e g) (l : M.le f g) : DI X c tg e f := ⟨fun pins s σ H Q I ⟨F, ρ, r, q⟩ => by
  rcases l ρ with z | z
  · rw [z] at q; exact False.elim q
  · rw [z] at q; exact h.run pins s σ H Q I ⟨F, ρ, r, q⟩⟩
def gIxA (d k : D) : M D := (gIx d k).alt (gDx d k)
theorem two_alt {g g' : D → D → M D} : M.le (M.two fa fb fun d k => (g d k).alt (g' d k)) ((M.two fa fb g).alt (M.two fa fb g')) := fun ρ => by
  unfold M.alt M.two M.bind
  cases fa ρ with
  | no => exact .inl rfl
  | er _ _ _ => exact .inr rfl
  | ok d ρ1 =>
    dsimp only
    cases fb ρ1 with
    | no => exact .inl rfl
    | er _ _ _ => exact .inr rfl
    | ok k ρ2 => exact .inr rfl
theorem de_ixA (fx : Fit X c) (hr : Room k X.A) (ha : DE X c a fa) (hb : DE X c b fb) (hs : PlainIx b := by exact fun _ _ => rfl) (hs2 : NoSl b := by exact fun _ _ => rfl) : DE X c (.Subscript a b pos) (M.two fa fb gIxA) :=
  (de_alt (de_ix fx ha hb hs) (de_dx hr ha hb hs2)).less two_alt
def itemsA (d : D) : M (List D) := (itemsL d).alt ((itemsT d).alt (itemsS d))
theorem bind_alt {g g' : D → M (List D)} : M.le (fa.bind fun d => (g d).alt (g' d)) ((fa.bind g).alt (fa.bind g')) := fun ρ => by
  unfold M.alt M.bind
  cases fa ρ with
  | no => exact .inl rfl
  | er _ _ _ => exact .inr rfl
  | ok d ρ1 => exact .inr rfl
theorem M.le.alt {α : Type} {f g h : M α} (l : M.le g h) : M.le (f.alt g) (f.alt h) := fun ρ => by
  unfold M.alt
  cases f ρ with
  | no => exact l ρ
  | er _ _ _ => exact .inr rfl
  | ok _ _ => exact .inr rfl
theorem M.le.trans {α : Type} {f g h : M α} (a : M.le f g) (b : M.le g h) : M.le f h := fun ρ => by
  rcases a ρ with z | z
  · exact .inl z
  · rcases b ρ with y | y
    · exact .inl (z.trans y)
    · exact .inr (z.trans y)
theorem di_any {tg : Expr} (fx : Fit X c) (ha : DE X c a fa) : DI X c tg a (fa.bind itemsA) :=
  (di_alt (di_list fx ha) (di_alt (di_tup fx ha) (di_str ha))).less (bind_alt.trans (M.le.alt bind_alt))
theorem opd_alt {r r' : R2} {g g' : D → D → M D} (h : OpD c r g) (h' : OpD c r' g') : OpD c (fun x y H Q => r x y H Q ∨ r' x y H Q) (fun d e => (g d e).alt (g' d e)) := fun F H σ ρ x y d e Q rr tx ty q => by
  have q : Pst c σ F ((g d e).alt (g' d e) ρ) Q := q
  unfold M.alt at q
  cases z : g d e ρ with
  | no => rw [z] at q; exact .inr (h' F H σ ρ x y d e Q rr tx ty q)
  | ok _ _ => rw [z] at q; exact .inl (h F H σ ρ x y d e Q rr tx ty (by rw [z]; exact q))
  | er _ _ _ => rw [z] at q; exact .inl (h F H σ ρ x y d e Q rr tx ty (by rw [z]; exact q))
/-- two texts, equal or not -/
def gSS (neg : Bool) : D → D → M D
  | .str i, .str j => M.ret (.bl (if neg then !decide (i = j) else decide (i = j)))
  | _, _ => M.no
theorem dec_s (i j : Str) : decide (V.str i = V.str j) = decide (i = j) := by
  by_cases z : i = j
  · subst z; rw [decide_eq_true (rfl : V.str i = V.str i), decide_eq_true (rfl : i = i)]
  · rw [decide_eq_false (fun y => z (by cases y; rfl)), decide_eq_false z]
theorem opd_ss : OpD c rEq (gSS false) := fun F H σ ρ x y d e Q rr tx ty q => by
  cases tx with
  | str i =>
    cases ty with
    | str j => exact ⟨rfl, by rw [dec_s]; exact q.ret rr (.bl _)⟩
    | _ => exact False.elim q
  | _ => exact False.elim q
theorem opd_sn : OpD c rNe (gSS true) := fun F H σ ρ x y d e Q rr tx ty q => by
  cases tx with
  | str i =>
    cases ty with
    | str j => exact ⟨rfl, by rw [dec_s]; exact q.ret rr (.bl _)⟩
    | _ => exact False.elim q
  | _ => exact False.elim q
def gEqA (d e : D) : M D := (gSS false d e).alt (gEq d e)
def gNeA (d e : D) : M D := (gSS true d e).alt (gNe d e)
theorem de_eqA (fx : Fit X c) (hr : Room k X.A) (ha : DE X c a fa) (hb : DE X c b fb) : DE X c (.Compare a [.Eq] [b] pos) (M.two fa fb gEqA) := de_cmp (op_eq.or (op_eqD hr.units)) (opd_alt opd_ss (opd_eq fx)) ha hb (nomark _)
theorem de_neA (fx : Fit X c) (hr : Room k X.A) (ha : DE X c a fa) (hb : DE X c b fb) : DE X c (.Compare a [.NotEq] [b] pos) (M.two fa fb gNeA) := de_cmp (op_ne.or (op_neD hr.units)) (opd_alt opd_sn (opd_ne fx)) ha hb (nomark _)
theorem dt_eqA (fx : Fit X c) (hr : Room k X.A) (ha : DE X c a fa) (hb : DE X c b fb) : DT X c (.Compare a [.Eq] [b] pos) ((M.two fa fb gEqA).bind M.tb) := dt_cmp (op_eq.or (op_eqD hr.units)) (opd_alt opd_ss (opd_eq fx)) ha hb (nomark _)
theorem dt_neA (fx : Fit X c) (hr : Room k X.A) (ha : DE X c a fa) (hb : DE X c b fb) : DT X c (.Compare a [.NotEq] [b] pos) ((M.two fa fb gNeA).bind M.tb) := dt_cmp (op_ne.or (op_neD hr.units)) (opd_alt opd_sn (opd_ne fx)) ha hb (nomark _)
end
end DL

set_option Elab.async false
set_option linter.all false
set_option maxRecDepth 100000
set_option maxHeartbeats 4000000
/-! DE1: the end of a law row, its def's promise told where no repr is under way. -/
namespace DL
open PySem PySem.Spec PyProof.Rows L2
/-- how the law's call ends -/
abbrev LawEnd (s₁ : Shared) (r : Result) (s' : Shared) : Prop := r = .ok (.ret (.bool true)) ∧ OldK s₁.heap s'.heap ∧ s'.os = s₁.os ∧ AllBare s'.gens
section
variable {P : Program} {w : World} {K : PySem.W.Frag} {mg mb : Str → Option Value} {k : Nat} {fa a : Addr} {fd : FuncData} {x : Str} {sp : Sp} {s₁ : Shared} {vs : List Value} {ns : List Int}
theorem lawG_core (KX : K.In s₁.heap) (hns : s₁.heap.Ns mainGlobals mg) (hb : s₁.heap.Ns builtinsNs mb) (hbb : ∀ x : Str, x ≠ "__name__" → mb x = bootBuiltins x) (hlim : s₁.heap.NoLimit) (hg : s₁.gens = #[]) (ha : s₁.heap.get? a = some { cls := .type "list", data := .seq vs.toArray })
    (hr : Room k callerA) (Fn : ∀ base : Heap, K.In base → base.Ns mainGlobals mg → FnG P w K mg base k fa fd [x] sp) (hbind : ∀ (s : Shared) (u : Value), BindsTo s fd ⟨[u], []⟩ [(x, u)]) (hsp : ∀ H : Hp, Only H → SqL K H a (ns.map V.int) → sp [.ref a] H (fun v _ => v = .bl true) fun _ _ _ => False)
    (H : Hp) (hO : Only H) (hS : SqL K H a (ns.map V.int)) (hok : HOk P w H s₁.heap) (hA : ∀ b, H b ≠ none → b = a) (hK : H a ≠ none → K.lookup a = none) : codeAny (model P w) callerA (.call (.ref fa) ⟨[.ref a], []⟩) (LawEnd s₁) s₁ := by
  have put : ∀ {b : Addr} {o : Obj}, s₁.heap.get? b = some o → H b = none → (hidT s₁.heap H).get? b = some o := fun e n => hidT_get e n
  have none_of : ∀ {b : Addr} {o : Obj}, s₁.heap.get? b = some o → o ≠ { cls := .type "list", data := .seq vs.toArray } → H b = none := fun {b o} e d => by
    rcases h : H b with _ | u
    · rfl
    · have y := hA b (some_ne h)
      rw [y, ha] at e
      exact (d (Option.some.inj e).symm).elim
  have toNs : ∀ {b : Addr} {m : Str → Option Value}, s₁.heap.Ns b m → (hidT s₁.heap H).Ns b m := fun {b m} ⟨o, es, ep, e, d, r⟩ =>
    ⟨o, es, ep, put e (none_of e fun z => by rw [z] at d; exact (nomatch (show Data.seq vs.toArray _ = Data.dict es ep from d))), d, r⟩
  have inB : K.In (hidT s₁.heap H) := fun b o e => put (KX b o e) (by
    rcases h : H b with _ | u
    · rfl
    · have y := hA b (some_ne h)
      subst y
      rw [hK (some_ne h)] at e; cases e)
  have lim : ∃ mc, (hidT s₁.heap H).Ns cStatics mc ∧ _ := let ⟨mc, h1, h2⟩ := hlim; ⟨mc, toNs h1, h2⟩
  have md : Mod K mg (hidT s₁.heap H) := ⟨inB, toNs hns, ⟨mb, toNs hb, hbb⟩, lim⟩
  have e0 : Env0 P w K mg (hidT s₁.heap H) callerA [] s₁ H := ⟨rfl, md, (fun b o e => of_hidT e), Nat.le_of_eq (hidT_size _ _), trivial, (fun b hb => nomatch (show b ∈ ([] : List Addr) from hb)), hok, .of_eq hg⟩
  refine codeAny_mono ((Fn _ inB (toNs hns)).go callerA [] s₁ H ⟨[.ref a], []⟩ [.ref a] [.ref a] _ _ hr rfl e0 (hbind s₁ (.ref a)) (.cons rfl .nil) (hsp H hO hS)) fun r s' h => ?_
  match r, h with
  | .error e, h => obtain ⟨_, _, _, _, _, _, _, _, _, _, _, _, z⟩ := h; exact z.elim
  | .ok .next, h => exact False.elim h
  | .ok .brk, h => exact False.elim h
  | .ok .cont, h => exact False.elim h
  | .ok (.ret u), h =>
    obtain ⟨v, H', os, bare, un, hok', rv, q⟩ := h
    have q : v = .bl true := q
    subst q
    obtain rfl : u = Value.bool true := rv
    refine ⟨rfl, OldK.of_keep fun b o e => ?_, os, bare⟩
    rcases h : H b with _ | u
    · exact un.keep b o e h (fun z => nomatch (show b ∈ ([] : List Addr) from z)) (by simp)
    · rcases hO b with z | ⟨ob, xs, z⟩
      · rw [h] at z; cases z
      · obtain ⟨e1, _⟩ := hok b _ z
        obtain ⟨e2, _⟩ := hok' b _ (un.frzs b ob _ z)
        rw [e] at e1; cases e1
        exact e2
theorem lawG_call (KX : K.In s₁.heap) (hns : s₁.heap.Ns mainGlobals mg) (hb : s₁.heap.Ns builtinsNs mb) (hbb : ∀ x : Str, x ≠ "__name__" → mb x = bootBuiltins x) (hlim : s₁.heap.NoLimit) (hg : s₁.gens = #[]) (ha : s₁.heap.get? a = some { cls := .type "list", data := .seq vs.toArray })
    (hi : IntsAre vs ns) (hl : ns.length ≤ sizeLine) (hr : Room k callerA) (Fn : ∀ base : Heap, K.In base → base.Ns mainGlobals mg → FnG P w K mg base k fa fd [x] sp) (hbind : ∀ (s : Shared) (u : Value), BindsTo s fd ⟨[u], []⟩ [(x, u)])
    (hsp : ∀ H : Hp, Only H → SqL K H a (ns.map V.int) → sp [.ref a] H (fun v _ => v = .bl true) fun _ _ _ => False) : codeAny (model P w) callerA (.call (.ref fa) ⟨[.ref a], []⟩) (LawEnd s₁) s₁ := by
  have rv := vals_ints hi
  have len := hi.length
  have go := lawG_core KX hns hb hbb hlim hg ha hr Fn hbind hsp
  rcases hk : K.lookup a with _ | o
  · let H0 : Hp := fun b => if b = a then some (.frz { cls := .type "list", data := .seq vs.toArray } (.lst (ns.map V.int))) else none
    have at_ : H0 a = some (.frz { cls := .type "list", data := .seq vs.toArray } (.lst (ns.map V.int))) := if_pos rfl
    have off : ∀ {b}, b ≠ a → H0 b = none := fun h => if_neg h
    refine go H0 (fun b => ?_) (.inl (.inr ⟨_, at_⟩)) (fun b u z => ?_) (fun b z => ?_) fun _ => hk
    · by_cases e : b = a
      · subst e; exact .inr ⟨_, _, at_⟩
      · exact .inl (off e)
    · by_cases e : b = a
      · subst e
        rw [at_] at z; cases z
        exact ⟨ha, by rw [List.length_map]; exact hl, vs, _, rv, ha⟩
      · rw [off e] at z; cases z
    · by_cases e : b = a
      · exact e
      · exact (z (off e)).elim
  · have e := KX a o hk
    rw [ha] at e
    cases e
    exact go (fun _ => none) (fun _ => .inl rfl) (.inr ⟨_, vs.toArray, _, hk, rfl, rfl, rfl, by rw [List.size_toArray, len]; exact hl, by simpa using rv⟩) (fun b u z => nomatch (show (none : Option HO) = some u from z)) (fun b z => (z rfl).elim) fun z => (z rfl).elim
end
theorem walkG {l : PySem.W.OpenLaw} {n k : Nat} {q : Program} {loose : List Str} {XP : (Str → Option Value) → Heap → Prop} {YP : World → Heap → Prop} {d : DefRec} {K : Params → PySem.W.Frag} {sp : World → Sp} {x : Str} (hn : l.most = some n) (hn2 : n ≤ sizeLine) (hdf : d.params.defaults = []) (hr : Room k callerA)
    (hY : ∀ (w : World) (h : Heap), YP w h → (K w.params).In h)
    (Fn : ∀ (w : World) (mg : Str → Option Value) (fa : Addr) (h : Heap), (K w.params).In h → h.Ns mainGlobals mg → mg d.name = some (.ref fa) → ∃ fd : FuncData, (∀ (s : Shared) (u : Value), BindsTo s fd ⟨[u], []⟩ [(x, u)]) ∧ ∀ base : Heap, (K w.params).In base → base.Ns mainGlobals mg → FnG l.prog w (K w.params) mg base k fa fd [x] (sp w))
    (hsp : ∀ (w : World) (H : Hp) (a : Addr) (ns : List Int), ns.length ≤ n → Only H → SqL (K w.params) H a (ns.map V.int) → sp w [.ref a] H (fun v _ => v = .bl true) fun _ _ _ => False) :
    PySem.W.WalkO q loose XP YP l.row.toRowW d [] (fun f vs => PySem.call f vs) := by
  refine Att.attach_call hn hdf fun w s₀ s₁ mg mb fa o pm cd doc a vs ns G Y ho hd hcd hmg hobj hints hlen hg => ?_
  have KX := hY w _ Y
  obtain ⟨fd, hb, hF⟩ := Fn w mg fa _ KX G.T.g hmg
  exact lawG_call KX G.T.g G.T.b G.T.builtins G.T.nolimit hg hobj hints (Nat.le_trans hlen hn2) hr hF hb fun H hO hS => hsp w H a ns hlen hO hS
end DL

set_option Elab.async false
set_option linter.all false
set_option maxRecDepth 100000
set_option maxHeartbeats 4000000
/-! DX0: an own exception class whose __init__ says super().__init__(). -/
namespace DL
open PySem PySem.Spec PyProof.Rows PySem.W PySem.Calls
section
variable {prog : Program} {w : World} {A : Around} {R : Result → Shared → Prop} {s : Shared} {K : Frag} {C fI cc cda x t0 : Addr} {mg mb : Str → Option Value} {B i newId : String} {bmB : List Value}
variable {qual : Str} {params : Arguments} {body : List Stmt} {scope : Scope} {dV kV doc pm ct oc ccl cl : Value} {an od cdd cld : Option Addr} {osl ccs csl : Array (Option Value)} {vs : Array Value} {file : Str} {tf : Tok} {ar : Arg} {cd : ClassData} {p0 p1 p2 p3 p4 : Pos}
theorem x0_he {o : Expr} {name : Str} {apos pos : Pos} {env : Env} (hline : (apos.endLine == pos.line) = true) :
    eval (.Call (.Attribute o name apos) [] [] pos) env = (do
      let ov ← attributeBase o name env (eval o env)
      standAt apos.atName
      let (f, first) ← holding [ov] (getMethod ov name (do return (← importBound o env).getD true))
      callWith pos f first (backTo pos (starEach [] env)) []) := by
  have hpos : methodCallPos true o env apos pos = pure pos := by unfold methodCallPos; simp [hline]
  rw [arm_eval_Call]
  refine congrArg _ (funext fun ov => congrArg _ (funext fun _ => ?_))
  show methodCall o name apos pos env ov 0 (backTo pos (starEach [] env)) [] = _
  unfold methodCall
  have hform : methodCallForm 0 (backTo pos (starEach [] env)) [] = true := rfl
  rw [hform, hpos]
  rfl
theorem x0_init (X : K.In s.heap) (hns : s.heap.Ns mainGlobals mg) (hmg : mg "super" = none) (hb : s.heap.Ns builtinsNs mb) (hbb : ∀ x : Str, x ≠ "__name__" → mb x = bootBuiltins x) (hlim : s.heap.NoLimit) (hroom : A.depth < recursionLimit)
    (hx : s.heap.get? x = some (PySem.HandSPX.excO C t0))
    (lk : K.lookup fI = some ⟨oc, od, .func (ksFn "__init__" qual params body scope dV kV doc pm an (.ref cda) ct cc), osl⟩) (hcd : codeIn K (.ref cda) qual = true) (hcode : K.lookup cda = some ⟨ccl, cdd, .fields vs, ccs⟩) (hvs : vs[2]? = some (.str file tf)) (hfile : ((prog.main.file : Str) == file) = true)
    (hcell : K.lookup cc = some ⟨cl, cld, .cell (some (.ref C)), csl⟩) (hC : clsIn K C = some cd) (hmro : mroIn K C (.ref C) = some true) (hsup : ks_superIn K C C "__init__" = some (some (.builtin i))) (hsub : subIn K (.ref C) (.type B) = some true) (hop : nsIn K cStatics "thirdparty.any" = some none)
    (KF : KxsFacts B i) (FB : ExcBaseFacts B newId i bmB) (q : excInitIn K C bmB newId = true) (htop : (prog.main.scope.names.lookup ("super" : Str)).isSome = false)
    (hbody : body = [.Expr (.Call (.Attribute (.Call (.Name "super" p0) [] [] p1) "__init__" p2) [] [] p3) p4]) (hbind : bindArgs (ksFn "__init__" qual params body scope dV kV doc pm an (.ref cda) ct cc) ⟨[.ref x], []⟩ = pure [(("self" : Str), Value.ref x)]) (hp : (params.posonlyargs ++ params.args).head? = some ar) (har : ar.arg = "self")
    (hks : scope.names.lookup ("super" : Str) = some .globalImplicit) (hkc : scope.names.lookup ("__class__" : Str) = some .free) (hka : scope.names.lookup ("self" : Str) = some .local) (hline : (p2.endLine == p3.line) = true) (hk : scope.kind = .function) (hco : scope.isCoroutine = false) (hgen : scope.isGenerator = false) (hnc : ∀ y ∈ scope.names, y.2 ≠ .cell)
    (hq : ∀ h' tk, (∀ b o, b ≠ x → s.heap.get? b = some o → h'.get? b = some o) → (∃ t1, h'.get? x = some (PySem.HandSPX.excO C t1)) → R (.ok (.ret .none)) { s with heap := h', toks := tk }) :
    codeAny (model prog w) A (.call (.ref fI) ⟨[.ref x], []⟩) R s := by
  subst hbody
  refine ks_codeAny_call_defAt (binds := [(("self" : Str), Value.ref x)]) hroom (X _ _ lk) rfl hlim (codeRec_of X hcd) rfl (.of_eq hbind) hnc (fun y hy => ?_) (fun h₁ hn1 k1 => ?_) hco hgen hk
  · rw [List.mem_singleton.mp hy]; exact hka
  have X1 : K.In h₁ := X.keeps k1
  obtain ⟨hp0, g, d, t, os⟩ := s
  refine ks_wpAt_execs_cons (ks_wpAt_Expr_any (ks_wpAt_MethodCall ?_ (x0_he hline)) (hi := by unfold interactive; show (scope.kind == .module && _) = false; rw [hk]; rfl))
  obtain ⟨oD, hD1, hD2⟩ : ∃ oD, h₁.get? C = some oD ∧ oD.data = .cls cd := by
    unfold clsIn at hC
    split at hC
    · rename_i c d cd' sl ho
      cases hC
      exact ⟨_, X1 _ _ ho, rfl⟩
    · cases hC
  have hx1 := k1 _ _ hx
  have xC : x ≠ C := fun z => by rw [z, hD1] at hx1; cases hx1; cases hD2
  refine ks_wpAt_super_base (f := fI) (cc := cda) (ar := ar) hks hkc (by decide +kernel) rfl (X1 _ _ lk) rfl hp rfl (X1 _ _ hcode) rfl hvs hfile htop ?_
  refine ks_loadName_global hk hks (loadGlobal_builtin (hns.keeps k1) hmg (hb.keeps k1) ((hbb _ (by decide +kernel)).trans (by kernel_rfl)) ⟨rfl, ?_⟩)
  refine wpAny_loadName_free hk hkc rfl ⟨_, X1 _ _ hcell, rfl⟩ ?_
  rw [har]
  refine wpAny_loadName_local hk hka hn1 rfl ?_
  refine ks_wpAny_isType_cls hD1 hD2 ⟨rfl, ?_⟩
  refine ks_wpAny_call_super hD1 hD2 hx1 rfl (fun c e => by cases e) (looks_mroIn X1 hmro) (fun h' e k2 => ?_)
  have X2 : K.In h' := X1.keeps k2
  have hx2 := k2 _ _ hx1
  have hI2 : Looks (model prog w) h' (isInstance (.ref x) (.type B)) true := (show PySem.W.InstAt h' x (excObj C t0 none .none) C none from ⟨hx2, rfl, rfl, trivial⟩).type.andThen (looks_subIn X2 hsub)
  refine kxs_getMethod KF (D := C) (x := x) (C := C) e (looks_opaque X2 hop) (l₀ := cd.mro) (l := (cd.mro.dropWhile (· != .ref C)).drop 1) (fun A Q E s k q => wpAny_bind ((looks_clsIn X2 hC) A _ E s k (wpAny_pure q))) rfl X2 ?_ hI2 xC (by decide +kernel) ?_
  · unfold ks_superIn at hsup; rw [hC] at hsup; exact hsup
  refine kxs_callWith (i := i) (x := x) rfl (evalArgs_empty ⟨Heap.get?_push_at rfl rfl, ?_⟩)
  obtain ⟨nm, N', qn, bs, bm, hdct, sn, sub, ab, col, dd, j0, j1, j2, j3, j5, jC, jT⟩ := excInit_of (X2.keeps (fun b o e => Heap.get?_push_of_some (kxs_mw i x) e)) q
  have hu : (h'.push (kxs_mw i x)).get? h'.objs.size = some (kxs_mw i x) := Heap.get?_push_at rfl rfl
  have hx3 : (h'.push (kxs_mw i x)).get? x = some (PySem.HandSPX.excO C t0) := Heap.get?_push_of_some _ hx2
  refine wpAny_call (codeAny_of_tree ?_)
  show wpAny _ (Around.in1 _) (callAny (.ref _) ⟨[], []⟩) _ _ _
  simp only [callAny]
  refine wpAny_bind (wpAny_load hu ?_)
  simp only [kxs_mw, show (Value.type "method-wrapper" == Value.type "method" || Value.type "method-wrapper" == Value.type "builtin_function_or_method" || Value.type "method-wrapper" == Value.type "method-wrapper") = true by decide, if_true]
  refine KFB.if_so (by decide) ?_
  refine wpAny_bind (check_bound_init FB.toExcCallFacts jC hx3 rfl ?_)
  refine wpAny_bind (wpAny_pure (wpAny_pure ?_))
  refine ⟨plainId_quiet FB.init.plain _, codeAny_builtin FB.initEntry ?_⟩
  refine exc_init_tree (cls := .ref C) (t0 := t0) (dv := none) (c2 := .none) (c3 := .none) (b4 := .bool false) hx3 (by decide +kernel) (fun hh kk e' t' => ?_)
  show PySem.wpAt _ _ _ (execs [] _) _ _ _
  refine wpAt_of_wpAny ?_
  refine wpAny_of_eq (a := Flow.next) (by rfl) ?_
  exact hq hh _ (fun b o hb he => kk b o hb (Heap.get?_push_of_some _ (k2 _ _ (k1 _ _ he)))) ⟨_, e'⟩
end
end DL

set_option Elab.async false
set_option linter.all false
set_option maxRecDepth 100000
set_option maxHeartbeats 4000000
/-! DX7: such an exception made: cn() as a value without attributes. -/
namespace DL
open PySem PySem.Spec PyProof.Rows PySem.W PySem.Calls L2
section
variable {P : Program} {w : World} {K : Frag} {base : Heap} {C fI cc cda : Addr} {mg : Str → Option Value} {B i newId : String} {bmB : List Value} {cn : Str}
variable {qual : Str} {params : Arguments} {body : List Stmt} {scope : Scope} {dV kV doc pm ct oc ccl cl : Value} {an od cdd cld : Option Addr}
variable {osl ccs csl : Array (Option Value)} {vs : Array Value} {file : Str} {tf : Tok} {ar : Arg} {cd : ClassData} {p0 p1 p2 p3 p4 : Pos}
theorem x0b_of (hm : mg cn = some (.ref C)) (hmg : mg "super" = none) (kC : keepIn K (.ref C) = true) (iC : findIn K (.ref C) "__init__" = some (some (.ref fI))) (tI : typeIn K (.ref fI) = some (.type "function"))
    (lk : K.lookup fI = some ⟨oc, od, .func (ksFn "__init__" qual params body scope dV kV doc pm an (.ref cda) ct cc), osl⟩) (hcd : codeIn K (.ref cda) qual = true) (hcode : K.lookup cda = some ⟨ccl, cdd, .fields vs, ccs⟩) (hvs : vs[2]? = some (.str file tf)) (hfile : ((P.main.file : Str) == file) = true)
    (hcell : K.lookup cc = some ⟨cl, cld, .cell (some (.ref C)), csl⟩) (hC : clsIn K C = some cd) (hmro : mroIn K C (.ref C) = some true) (hsup : ks_superIn K C C "__init__" = some (some (.builtin i))) (hsub : subIn K (.ref C) (.type B) = some true) (hop : nsIn K cStatics "thirdparty.any" = some none)
    (KF : KxsFacts B i) (FB : ExcBaseFacts B newId i bmB) (q : excInitIn K C bmB newId = true) (htop : (P.main.scope.names.lookup ("super" : Str)).isSome = false)
    (hbody : body = [.Expr (.Call (.Attribute (.Call (.Name "super" p0) [] [] p1) "__init__" p2) [] [] p3) p4]) (hbind : ∀ x : Addr, bindArgs (ksFn "__init__" qual params body scope dV kV doc pm an (.ref cda) ct cc) ⟨[.ref x], []⟩ = pure [(("self" : Str), Value.ref x)]) (hpr : (params.posonlyargs ++ params.args).head? = some ar) (har : ar.arg = "self")
    (hks : scope.names.lookup ("super" : Str) = some .globalImplicit) (hkc : scope.names.lookup ("__class__" : Str) = some .free) (hka : scope.names.lookup ("self" : Str) = some .local) (hline : (p2.endLine == p3.line) = true) (hk : scope.kind = .function) (hco : scope.isCoroutine = false) (hgen : scope.isGenerator = false) (hnc : ∀ y ∈ scope.names, y.2 ≠ .cell)
    (hdb : (cn == ("__debug__" : Str)) = false := by decide) : X0B P w K mg base cn := by
  refine ⟨C, hm, fun X p pos eP ew eK em eb hg hr => ⟨fun pins s σ H Q I h => ?_⟩⟩
  subst eP ew eK em eb
  refine wpAny_Call_Name_kw (ld_glob I hg hm (callWith_K0 I.kIn kC ?_) hdb)
  obtain ⟨nm, N', qn, bs, bm, hdct, sn, sub, ab, col, dd, k0, k1, k2, k3, k5, jC, jT⟩ := excInit_of I.kIn q
  obtain ⟨hp, g, dr, tk, os⟩ := s
  have hsz : hp.objs.size ≤ hp.objs.size + 1 := Nat.le_succ _
  have hn := I.hok.fresh hsz
  have hget : ((hp.push (kdv_tup [])).push (PySem.HandSPX.excO C hp.objs.size)).get? (hp.objs.size + 1) = some (PySem.HandSPX.excO C hp.objs.size) := by heap_get
  have kk : ∀ b o, hp.get? b = some o → ((hp.push (kdv_tup [])).push (PySem.HandSPX.excO C hp.objs.size)).get? b = some o := fun b o e => Heap.get?_push_of_some _ (Heap.get?_push_of_some _ e)
  have I2 : Inv X pins σ (upd H (hp.objs.size + 1) (exo (hp.objs.size + 1) C none)) ⟨(hp.push (kdv_tup [])).push (PySem.HandSPX.excO C hp.objs.size), g, dr, tk, os⟩ := I.laid (t' := tk) (a := hp.objs.size + 1) (o := exo (hp.objs.size + 1) C none) kk hsz (exo_ok hget)
  obtain ⟨mb, b1, b2⟩ := I2.mod.blt
  refine wpAny_call (kcall FB jT jC (looks_findIn I.kIn iC) (fun self => bind_fn I.kIn self tI) (rest := []) (Nat.zero_le _)
    (x0_init (t0 := hp.objs.size) I2.kIn (I2.mod.glob.keeps I2.bk) hmg (b1.keeps I2.bk) b2 (I2.mod.nolimit.keeps I2.bk) (hr.make C [] []).depth hget lk hcd hcode hvs hfile hcell hC hmro hsup hsub hop KF FB q htop hbody (hbind _) hpr har hks hkc hka hline hk hco hgen hnc fun h' tk' k' e1 => ?_))
  obtain ⟨t1, e1⟩ := e1
  have J : Inv X pins σ (upd (upd H (hp.objs.size + 1) (exo (hp.objs.size + 1) C none)) (hp.objs.size + 1) (exn (hp.objs.size + 1) C)) ⟨h', g, dr, tk', os⟩ :=
    I2.write (t' := tk') (x := hp.objs.size + 1) (e := hp.objs.size + 1) (o := exn (hp.objs.size + 1) C) (h' := h') (by rw [upd_same]; exact True.intro) (.inl rfl) (fun b u n z => k' b u n z) ⟨_, e1⟩
      ⟨⟨_, _, e1, rfl, rfl, rfl⟩, ⟨_, e1⟩, fun g1 g2 z k => by
        obtain ⟨oe', vs', q, r⟩ := z
        exact ⟨oe', vs', k _ q, r⟩⟩
  have eU : upd (upd H (hp.objs.size + 1) (exo (hp.objs.size + 1) C none)) (hp.objs.size + 1) (exn (hp.objs.size + 1) C) = upd H (hp.objs.size + 1) (exn (hp.objs.size + 1) C) := by
    funext b
    by_cases z : b = hp.objs.size + 1
    · rw [z, upd_same, upd_same]
    · rw [upd_ne z, upd_ne z, upd_ne z]
  rw [eU] at J
  exact ⟨rfl, V.ref (hp.objs.size + 1), _, J, rfl, h _ hn⟩
end
end DL

set_option Elab.async false
set_option linter.all false
set_option maxRecDepth 100000
set_option maxHeartbeats 4000000
/-! DX8: an own exception of one or two attributes by its facts. -/
namespace DL
open PySem PySem.Spec PyProof.Rows PySem.W PySem.Calls L2
section
variable {P : Program} {w : World} {K : Frag} {base : Heap} {C fI : Addr} {mg : Str → Option Value} {newId : String} {bmB : List Value} {cn x qual g g2 : Str} {st : Stmt} {oc : Value} {od an : Option Addr} {osl : Array (Option Value)} {kV doc pm cdv ct : Value} {p1 p2 p3 p4 q1 q2 q3 q4 : Pos}
theorem xcls_of (b : XBase bmB newId) (q : excInitIn K C bmB newId = true) (ov : excOver K C bmB = true) (sa : findIn K (.ref C) "__setattr__" = some (some (.builtin "object.__setattr__"))) (iC : findIn K (.ref C) "__init__" = some (some (.ref fI)))
    (tI : typeIn K (.ref fI) = some (.type "function")) (kC : keepIn K (.ref C) = true) (ga : findIn K (.ref C) "__getattribute__" = some (some (.builtin "BaseException.__getattribute__"))) (gg : findIn K (.ref C) "__getattr__" = some none)
    (ex : subIn K (.ref C) (.type "BaseException") = some true) (hd : hasDictIn K C = true) : XCls K C fI bmB newId := ⟨b, q, ov, sa, iC, tI, kC, ⟨ga, gg, ex, hd⟩⟩
theorem xcb1_of (hm : mg cn = some (.ref C)) (T : XCls K C fI bmB newId) (ty : typeIn K (.ref C) = some (.type "type")) (hno : findIn K (.ref C) g = some none)
    (l : K.lookup fI = some ⟨oc, od, .func (fnOf x qual (defArgs st) (defBody st) (defScope st) .none kV doc pm an cdv ct), osl⟩) (c : codeIn K cdv qual = true) (k : keepIn K (.ref fI) = true) (S : FnScope ["self", g] ["self", g] (defScope st))
    (hb : defBody st = [.Assign [.Attribute (.Name "self" p1) g p2] (.Name g p3) p4])
    (hbd : ∀ (kV doc pm : Value) (an : Option Addr) (cdv ct : Value) (us : List Value), us.length = 2 → bindArgs (fnOf x qual (defArgs st) (defBody st) (defScope st) .none kV doc pm an cdv ct) ⟨us, []⟩ = pure (List.zip (["self", g] : List Str) us))
    (hs : (g == ("__debug__" : Str)) = false := by decide) (hc : (g == ("__classdict__" : Str)) = false := by decide) : XcB P w K mg base cn 1 (fD1 g) :=
  ⟨C, fI, _, ["self", g], bmB, newId, _, hm, T, ty, mkf1, fn_spX1 T hno (fun_mk l c k) S hb hs hc, (fun_mk l c k).binds hbd, rfl, by decide⟩
theorem xcb2_of (hm : mg cn = some (.ref C)) (T : XCls K C fI bmB newId) (ty : typeIn K (.ref C) = some (.type "type")) (hno : findIn K (.ref C) g = some none) (hno2 : findIn K (.ref C) g2 = some none)
    (l : K.lookup fI = some ⟨oc, od, .func (fnOf x qual (defArgs st) (defBody st) (defScope st) .none kV doc pm an cdv ct), osl⟩) (c : codeIn K cdv qual = true) (k : keepIn K (.ref fI) = true) (S : FnScope ["self", g, g2] ["self", g, g2] (defScope st))
    (hb : defBody st = [.Assign [.Attribute (.Name "self" p1) g p2] (.Name g p3) p4, .Assign [.Attribute (.Name "self" q1) g2 q2] (.Name g2 q3) q4])
    (hbd : ∀ (kV doc pm : Value) (an : Option Addr) (cdv ct : Value) (us : List Value), us.length = 3 → bindArgs (fnOf x qual (defArgs st) (defBody st) (defScope st) .none kV doc pm an cdv ct) ⟨us, []⟩ = pure (List.zip (["self", g, g2] : List Str) us))
    (hs : (g == ("__debug__" : Str)) = false := by decide) (hc : (g == ("__classdict__" : Str)) = false := by decide) (hs2 : (g2 == ("__debug__" : Str)) = false := by decide) (hc2 : (g2 == ("__classdict__" : Str)) = false := by decide) : XcB P w K mg base cn 2 (fD2 g g2) :=
  ⟨C, fI, _, ["self", g, g2], bmB, newId, _, hm, T, ty, mkf2, fn_spX2 T hno hno2 (fun_mk l c k) S hb hs hc hs2 hc2, (fun_mk l c k).binds hbd, rfl, by decide⟩
/-- both: by position, by keywords -/
theorem xck1_of (hm : mg cn = some (.ref C)) (T : XCls K C fI bmB newId) (ty : typeIn K (.ref C) = some (.type "type")) (hno : findIn K (.ref C) g = some none)
    (l : K.lookup fI = some ⟨oc, od, .func (fnOf x qual (defArgs st) (defBody st) (defScope st) .none kV doc pm an cdv ct), osl⟩) (c : codeIn K cdv qual = true) (k : keepIn K (.ref fI) = true) (S : FnScope ["self", g] ["self", g] (defScope st))
    (hb : defBody st = [.Assign [.Attribute (.Name "self" p1) g p2] (.Name g p3) p4])
    (hbd : ∀ (kV doc pm : Value) (an : Option Addr) (cdv ct : Value) (us : List Value), us.length = 2 → bindArgs (fnOf x qual (defArgs st) (defBody st) (defScope st) .none kV doc pm an cdv ct) ⟨us, []⟩ = pure (List.zip (["self", g] : List Str) us))
    (hbk : ∀ (kV doc pm : Value) (an : Option Addr) (cdv ct : Value) (us ws : List Value), us.length = 1 → ws.length = 1 → bindArgs (fnOf x qual (defArgs st) (defBody st) (defScope st) .none kV doc pm an cdv ct) ⟨us, List.zip ([g] : List Str) ws⟩ = pure (List.zip (["self", g] : List Str) (us ++ pick [0] ws)))
    (hs : (g == ("__debug__" : Str)) = false := by decide) (hc : (g == ("__classdict__" : Str)) = false := by decide) : XcB P w K mg base cn 1 (fD1 g) ∧ XkB P w K mg base cn 1 [g] [0] (fD1 g) :=
  ⟨⟨C, fI, _, ["self", g], bmB, newId, _, hm, T, ty, mkf1, fn_spX1 T hno (fun_mk l c k) S hb hs hc, (fun_mk l c k).binds hbd, rfl, by decide⟩,
    ⟨C, fI, _, ["self", g], bmB, newId, _, hm, T, mkf1, fn_spX1 T hno (fun_mk l c k) S hb hs hc, kbn_of 1 (hbk kV doc pm an cdv ct)⟩⟩
theorem xck2_of (hm : mg cn = some (.ref C)) (T : XCls K C fI bmB newId) (ty : typeIn K (.ref C) = some (.type "type")) (hno : findIn K (.ref C) g = some none) (hno2 : findIn K (.ref C) g2 = some none)
    (l : K.lookup fI = some ⟨oc, od, .func (fnOf x qual (defArgs st) (defBody st) (defScope st) .none kV doc pm an cdv ct), osl⟩) (c : codeIn K cdv qual = true) (k : keepIn K (.ref fI) = true) (S : FnScope ["self", g, g2] ["self", g, g2] (defScope st))
    (hb : defBody st = [.Assign [.Attribute (.Name "self" p1) g p2] (.Name g p3) p4, .Assign [.Attribute (.Name "self" q1) g2 q2] (.Name g2 q3) q4])
    (hbd : ∀ (kV doc pm : Value) (an : Option Addr) (cdv ct : Value) (us : List Value), us.length = 3 → bindArgs (fnOf x qual (defArgs st) (defBody st) (defScope st) .none kV doc pm an cdv ct) ⟨us, []⟩ = pure (List.zip (["self", g, g2] : List Str) us))
    (hbk : ∀ (kV doc pm : Value) (an : Option Addr) (cdv ct : Value) (us ws : List Value), us.length = 1 → ws.length = 2 → bindArgs (fnOf x qual (defArgs st) (defBody st) (defScope st) .none kV doc pm an cdv ct) ⟨us, List.zip ([g2, g] : List Str) ws⟩ = pure (List.zip (["self", g, g2] : List Str) (us ++ pick [1, 0] ws)))
    (hs : (g == ("__debug__" : Str)) = false := by decide) (hc : (g == ("__classdict__" : Str)) = false := by decide) (hs2 : (g2 == ("__debug__" : Str)) = false := by decide) (hc2 : (g2 == ("__classdict__" : Str)) = false := by decide) : XcB P w K mg base cn 2 (fD2 g g2) ∧ XkB P w K mg base cn 2 [g2, g] [1, 0] (fD2 g g2) :=
  ⟨⟨C, fI, _, ["self", g, g2], bmB, newId, _, hm, T, ty, mkf2, fn_spX2 T hno hno2 (fun_mk l c k) S hb hs hc hs2 hc2, (fun_mk l c k).binds hbd, rfl, by decide⟩,
    ⟨C, fI, _, ["self", g, g2], bmB, newId, _, hm, T, mkf2, fn_spX2 T hno hno2 (fun_mk l c k) S hb hs hc hs2 hc2, kbn_of 1 (hbk kV doc pm an cdv ct)⟩⟩
end
/-- the def number j of the class that is number i of a program -/
def metOf (P : Program) (i j : Nat) : Stmt := match P.main.body.getD i (.Pass ⟨0, 0, 0, 0⟩) with
  | .ClassDef _ _ _ b _ _ _ _ _ _ _ => b.getD j (.Pass ⟨0, 0, 0, 0⟩)
  | s => s
end DL

set_option Elab.async false
set_option linter.all false
set_option maxRecDepth 100000
set_option maxHeartbeats 4000000
/-! DX9: tables of classes, one class after another. -/
namespace DL
open PySem PySem.Spec PyProof.Rows PySem.W PySem.Calls L2
section
variable {K : Frag} {mg : Str → Option Value} {p : Addr → Prop} {l : List Str} {cn f : Str} {C : Addr} {m : Value → Option Bool} {cat : Str → Option Bool}
structure Each (mg : Str → Option Value) (p : Addr → Prop) (l : List Str) : Prop where
  go : ∀ cn ∈ l, ∀ C : Addr, mg cn = some (.ref C) → p C
theorem each_nil : Each mg p [] := ⟨fun _ h => by cases h⟩
theorem each_cons (hm : mg cn = some (.ref C)) (x : p C) (t : Each mg p l) : Each mg p (cn :: l) := ⟨fun c h C' q => by
  rcases List.mem_cons.mp h with rfl | h
  · rw [hm] at q; cases q; exact x
  · exact t.go _ h _ q⟩
theorem xtab_of (t : Each mg (fun C => XfC K C ∧ findIn K (.ref C) f = some none) l) : XTab K mg l f := ⟨t.go⟩
theorem catb_of (t : Each mg (fun C => m (.ref C) = some true) l) (h : ∀ c b, cat c = some b → c ∈ l ∧ b = true) : CatB mg m cat := ⟨fun cn C b hm hc => by
  obtain ⟨h1, h2⟩ := h cn b hc
  rw [h2]
  exact t.go cn h1 C hm⟩
theorem cat_in {l : List Str} (c : Str) (b : Bool) (h : (if c ∈ l then some true else none) = some b) : c ∈ l ∧ b = true := by
  split at h
  · cases h; exact ⟨by assumption, rfl⟩
  · cases h
theorem catb_ex {x : Str} {l : List Str} (hm : mg x = some (.ref C)) (t : Each mg (fun C' => exmOne K (.ref C') (.ref C) = some true) l) (h : ∀ c b, cat c = some b → c ∈ l ∧ b = true) :
    ∃ C : Addr, mg x = some (.ref C) ∧ CatB mg (fun cls => exmOne K cls (.ref C)) cat := ⟨C, hm, catb_of (m := fun cls => exmOne K cls (.ref C)) t h⟩
theorem each_skip (hm : mg cn = none) (t : Each mg p l) : Each mg p (cn :: l) := ⟨fun c h C' q => by
  rcases List.mem_cons.mp h with rfl | h
  · rw [hm] at q; cases q
  · exact t.go _ h _ q⟩
theorem kinds_of {ins exc : List Str} (a : Each mg (InsT K) ins) (b : Each mg (ExcT K) exc) : Kinds K mg ins exc := ⟨a.go, b.go⟩
end
end DL

set_option Elab.async false
set_option linter.all false
set_option maxRecDepth 100000
set_option maxHeartbeats 4000000
/-! DE2: defs by their facts; a law row's end over data. -/
namespace DL
open PySem PySem.Spec PyProof.Rows PySem.W L2
/-- the def x of the text, as the top has made it -/
structure DfB (K : Frag) (mg : Str → Option Value) (x qual : Str) (st : Stmt) (ps : List Str) : Prop where
  ex : ∃ f fd, mg x = some (.ref f) ∧ Fun K x qual st f fd ∧ ∀ us : List Value, us.length = ps.length → bindArgs fd ⟨us, []⟩ = pure (ps.zip us)
section
variable {P : Program} {w : World} {K : Frag} {mg : Str → Option Value} {base : Heap} {T : List (Addr × Str)} {x qual : Str} {st : Stmt} {f : Addr} {N ps : List Str} {k : Nat} {g : M Out} {oc : Value} {od an : Option Addr} {osl : Array (Option Value)} {kV doc pm cdv ct : Value}
theorem df_of (hm : mg x = some (.ref f)) (l : K.lookup f = some ⟨oc, od, .func (fnOf x qual (defArgs st) (defBody st) (defScope st) .none kV doc pm an cdv ct), osl⟩) (c : codeIn K cdv qual = true) (k : keepIn K (.ref f) = true)
    (hbd : ∀ (kV doc pm : Value) (an : Option Addr) (cdv ct : Value) (us : List Value), us.length = ps.length → bindArgs (fnOf x qual (defArgs st) (defBody st) (defScope st) .none kV doc pm an cdv ct) ⟨us, []⟩ = pure (ps.zip us)) : DfB K mg x qual st ps :=
  ⟨f, _, hm, fun_mk l c k, hbd kV doc pm an cdv ct⟩
theorem cal_of (d : DfB K mg x qual st ps) (S : FnScope N ps (defScope st))
    (hbody : ∀ (f : Addr) (cdv : Value) (A : Around) (outer : List Env) (s : Shared) (H : Hp) (E : XK) (c : Fc), c.K = K → c.mg = mg → c.T = T → Fit (cxOf (L2.CX P w) P w K mg base N qual (defScope st) f cdv A outer s H E) c → Room k (A.deeper (envOfC qual (defScope st) s.heap.objs.size f cdv)) →
      DSs (cxOf (L2.CX P w) P w K mg base N qual (defScope st) f cdv A outer s H E) c (defBody st) g) :
    Cal P w K mg base T x (k + 1) ps.length fun ds => resD (g (slots N.length (ds.map .im))) := by
  obtain ⟨f, fd, hm, F, hb⟩ := d.ex
  exact ⟨f, fd, ps, hm, fn_spD F S fun cdv A ou s H E c => hbody f cdv A ou s H E c, F.kp, .all hb⟩
theorem calG_of (d : DfB K mg x qual st ps) (S : FnScope N ps (defScope st))
    (hbody : ∀ (f : Addr) (cdv : Value) (A : Around) (outer : List Env) (s : Shared) (H : Hp) (E : XK) (c : Fc), c.K = K → c.mg = mg → c.T = T → Fit (cxOf (L2.CX P w) P w K mg base N qual (defScope st) f cdv A outer s H E) c → A.guards = some [] → Room k (A.deeper (envOfC qual (defScope st) s.heap.objs.size f cdv)) →
      DSs (cxOf (L2.CX P w) P w K mg base N qual (defScope st) f cdv A outer s H E) c (defBody st) g) :
    CalG P w K mg base T x (k + 1) ps.length fun ds => resD (g (slots N.length (ds.map .im))) := by
  obtain ⟨f, fd, hm, F, hb⟩ := d.ex
  exact ⟨f, fd, ps, hm, fnG_spD F S fun cdv A ou s H E c h1 h2 h3 h4 h5 h6 => hbody f cdv A ou s H E c h1 h2 h3 h4 h6 h5, F.kp, .all hb⟩
/-- a promise weakened -/
theorem FnG.imp {fd : FuncData} {sp sp' : Sp} (F : FnG P w K mg base k f fd ps sp) (h : ∀ vs H Q E, sp' vs H Q E → sp vs H Q E) : FnG P w K mg base k f fd ps sp' :=
  ⟨fun vs H Q E q => F.len vs H Q E (h _ _ _ _ q), fun A ou s H args us vs Q E h1 h2 h3 h4 h5 q => F.go A ou s H args us vs Q E h1 h2 h3 h4 h5 (h _ _ _ _ q)⟩
/-- the law's promise, without the module's names -/
def spTrue (K : Frag) (n : Nat) : Sp := fun vs H Q _ => ∃ (a : Addr) (ns : List Int), vs = [.ref a] ∧ ns.length ≤ n ∧ Only H ∧ SqL K H a (ns.map V.int) ∧ ∀ H', Q (.bl true) H'
theorem dts_ints {F : Hp} (ns : List Int) : Dts K mg F (ns.map V.int) (ns.map D.int) := by
  induction ns with
  | nil => exact .nil
  | cons i ns ih => exact .cons (.int i) ih
theorem spTrue_imp {n : Nat} {fn : List D → Res D} (ht : ∀ ns : List Int, ns.length ≤ n → fn [.rol (ns.map .int)] = .ok (.bl true)) (vs : List V) (H : Hp) (Q : VK) (E : XK) (h : spTrue K n vs H Q E) : spD K mg [] 1 fn vs H Q E := by
  obtain ⟨a, ns, rfl, hl, hO, hS, hq⟩ := h
  refine ⟨H, [.rol (ns.map .int)], ⟨fun _ hp => (by cases hp), fun _ hp => (by cases hp), .refl H⟩, .cons (.rol hS (dts_ints ns)) .nil, rfl, ?_⟩
  rw [ht ns hl]
  intro v F' H' _ d
  cases d
  exact hq H'
end
theorem walkD {l : OpenLaw} {n k : Nat} {q : Program} {loose : List Str} {XP : (Str → Option Value) → Heap → Prop} {YP : World → Heap → Prop} {d : DefRec} {K : Params → Frag} {x qual : Str} {st : Stmt} {N : List Str} {g : M Out} (hn : l.most = some n) (hn2 : n ≤ sizeLine) (hdf : d.params.defaults = []) (hr : Room (k + 1) callerA)
    (hY : ∀ (w : World) (h : Heap), YP w h → (K w.params).In h) (S : FnScope N [x] (defScope st))
    (D : ∀ (w : World) (mg : Str → Option Value) (h : Heap), (K w.params).In h → h.Ns mainGlobals mg → DfB (K w.params) mg d.name qual st [x])
    (B : ∀ (w : World) (mg : Str → Option Value) (base : Heap), (K w.params).In base → base.Ns mainGlobals mg → ∀ (f : Addr) (cdv : Value) (A : Around) (outer : List Env) (s : Shared) (H : Hp) (E : XK) (c : Fc), c.K = K w.params → c.mg = mg → c.T = [] → Fit (cxOf (L2.CX l.prog w) l.prog w (K w.params) mg base N qual (defScope st) f cdv A outer s H E) c → A.guards = some [] → Room k (A.deeper (envOfC qual (defScope st) s.heap.objs.size f cdv)) →
      DSs (cxOf (L2.CX l.prog w) l.prog w (K w.params) mg base N qual (defScope st) f cdv A outer s H E) c (defBody st) g)
    (ht : ∀ ns : List Int, ns.length ≤ n → resD (g (slots N.length [.im (.rol (ns.map .int))])) = .ok (.bl true)) :
    WalkO q loose XP YP l.row.toRowW d [] (fun f vs => PySem.call f vs) := by
  refine walkG (k := k + 1) (x := x) (sp := fun w => spTrue (K w.params) n) hn hn2 hdf hr hY (fun w mg fa h KX G hm => ?_) fun w H a ns hl hO hS => ⟨a, ns, rfl, hl, hO, hS, fun _ => rfl⟩
  obtain ⟨f, fd, hm2, F, hb⟩ := (D w mg h KX G).ex
  rw [hm] at hm2
  cases hm2
  refine ⟨fd, fun s u => .of_eq (hb [u] rfl), fun base KX2 G2 => ?_⟩
  have Fn := fnG_spD (w := w) (P := l.prog) (mg := mg) (base := base) (T := []) (k := k) (g := g) F S fun cdv A ou s H E c h1 h2 h3 h4 h5 h6 => B w mg base KX2 G2 fa cdv A ou s H E c h1 h2 h3 h4 h6 h5
  exact Fn.imp (spTrue_imp (fn := fun ds => resD (g (slots N.length (ds.map .im)))) ht)
end DL

set_option Elab.async false
set_option linter.all false
set_option maxRecDepth 100000
set_option maxHeartbeats 4000000
/-! DE3: the table of types by its facts; constants of the module. -/
namespace DL
open PySem PySem.Spec PyProof.Rows PySem.W L2
def tyB : Ty → Ty → Bool
  | .inl a, .inl b => decide (a = b)
  | .inr a, .inr b => decide (a = b)
  | _, _ => false
def upB (ups : Str → List Ty) (e : Str) (c : Ty) : Bool := (ups e).any fun u => tyB u c
def plB (a b : String) : Bool := decide (a = b) || (decide (a = "bool") && decide (b = "int"))
/-- a type of the left kind is under one of the right kind, as far as it is told -/
def ktOf (ups : Str → List Ty) (own usedO : List Str) (usedB plain : List String) : KT := fun t c => match t, c with
  | .inr e, .inl b => if e ∈ own ∧ b ∈ usedB then some (upB ups e (.inl b)) else none
  | .inr e, .inr b => if e ∈ own ∧ b ∈ usedO then some (upB ups e (.inr b)) else none
  | .inl a, .inl b => if a ∈ plain ∧ b ∈ usedB then some (plB a b) else none
  | .inl a, .inr b => if a ∈ plain ∧ b ∈ usedO then some false else none
section
variable {K : Frag} {mg : Str → Option Value} {l : List Str} {cn x : Str} {C : Addr} {ups : Str → List Ty} {own usedO : List Str} {usedB plain : List String}
/-- all names of a list are classes of the text with p -/
structure EachX (mg : Str → Option Value) (p : Str → Addr → Prop) (l : List Str) : Prop where
  go : ∀ cn ∈ l, ∃ C : Addr, mg cn = some (.ref C) ∧ p cn C
theorem eachX_nil {p : Str → Addr → Prop} : EachX mg p [] := ⟨fun _ h => by cases h⟩
theorem eachX_cons {p : Str → Addr → Prop} (hm : mg cn = some (.ref C)) (x : p cn C) (t : EachX mg p l) : EachX mg p (cn :: l) := ⟨fun c h => by
  rcases List.mem_cons.mp h with rfl | h
  · exact ⟨C, hm, x⟩
  · exact t.go _ h⟩
theorem ktRow {cv : Value} {c : Ty} (hm : mg cn = some (.ref C)) (b : Bool) (x : kitOne K (.ref C) cv = some b) (e : upB ups cn c = b) (t : EachX mg (fun e C => kitOne K (.ref C) cv = some (upB ups e c)) l) : EachX mg (fun e C => kitOne K (.ref C) cv = some (upB ups e c)) (cn :: l) :=
  eachX_cons hm (by rw [e]; exact x) t
theorem allm_nil {α : Type} {p : α → Prop} : ∀ b ∈ ([] : List α), p b := fun _ h => by cases h
theorem allm_cons {α : Type} {p : α → Prop} {a : α} {l : List α} (h : p a) (t : ∀ b ∈ l, p b) : ∀ b ∈ a :: l, p b := fun b hb => by
  rcases List.mem_cons.mp hb with rfl | hb
  · exact h
  · exact t b hb
/-- what is known of a class of the text that isinstance names -/
structure KtC (K : Frag) (mg : Str → Option Value) (ups : Str → List Ty) (own : List Str) (plain : List String) (b : Str) : Prop where
  ex : ∃ Cb : Addr, mg b = some (.ref Cb) ∧ EachX mg (fun e C => kitOne K (.ref C) (.ref Cb) = some (upB ups e (.inr b))) own ∧ ∀ a ∈ plain, kitOne K (.type a) (.ref Cb) = some false
theorem ktC_of {b : Str} {Cb : Addr} (hm : mg b = some (.ref Cb)) (hr : EachX mg (fun e C => kitOne K (.ref C) (.ref Cb) = some (upB ups e (.inr b))) own) (hp : ∀ a ∈ plain, kitOne K (.type a) (.ref Cb) = some false) : KtC K mg ups own plain b := ⟨Cb, hm, hr, hp⟩
structure KtT (K : Frag) (mg : Str → Option Value) (ups : Str → List Ty) (own : List Str) (plain : List String) (b : String) : Prop where
  o : EachX mg (fun e C => kitOne K (.ref C) (.type b) = some (upB ups e (.inl b))) own
  p : ∀ a ∈ plain, kitOne K (.type a) (.type b) = some (plB a b)
theorem ktok_of (hO : ∀ b ∈ usedO, KtC K mg ups own plain b) (hB : ∀ b ∈ usedB, KtT K mg ups own plain b) : KtOk K mg (ktOf ups own usedO usedB plain) := fun t c b e tv cv ht hc => by
  unfold ktOf at e
  cases t with
  | inl a =>
    have ht : tv = .type a := ht
    subst ht
    cases c with
    | inl b' =>
      have hc : cv = .type b' := hc
      subst hc
      simp only at e
      split at e
      · next h => cases e; exact (hB b' h.2).p a h.1
      · cases e
    | inr b' =>
      have hc : mg b' = some cv := hc
      simp only at e
      split at e
      · next h =>
        cases e
        obtain ⟨Cb, h1, _, h3⟩ := (hO b' h.2).ex
        rw [hc] at h1
        cases h1
        exact h3 a h.1
      · cases e
  | inr a =>
    have ht : mg a = some tv := ht
    cases c with
    | inl b' =>
      have hc : cv = .type b' := hc
      subst hc
      simp only at e
      split at e
      · next h =>
        cases e
        obtain ⟨C, h1, h2⟩ := (hB b' h.2).o.go a h.1
        rw [ht] at h1
        cases h1
        exact h2
      · cases e
    | inr b' =>
      have hc : mg b' = some cv := hc
      simp only at e
      split at e
      · next h =>
        cases e
        obtain ⟨Cb, h1, h2, _⟩ := (hO b' h.2).ex
        rw [hc] at h1
        cases h1
        obtain ⟨C, g1, g2⟩ := h2.go a h.1
        rw [ht] at g1
        cases g1
        exact g2
      · cases e
theorem each_ex {p : Addr → Prop} (h : ∃ C : Addr, mg cn = some (.ref C) ∧ p C) (t : Each mg p l) : Each mg p (cn :: l) := h.elim fun _ h => each_cons h.1 h.2 t
/-! constants -/
theorem con_int {i : Int} {n : Nat} (hm : mg x = some (.int i n)) : Con K mg x (.int i) := ⟨.int i, .int i n, hm, ⟨n, rfl⟩, fun F => .int i⟩
end
end DL

set_option Elab.async false
set_option linter.all false
set_option maxRecDepth 100000
set_option maxHeartbeats 4000000
/-! DM1: d.get, s.index, sum, sorted. -/
namespace DL
open PySem PySem.Spec PyProof.Rows L2
section
variable {X : Cx} {c : Fc} {F H : Hp} {σ : L2.St} {ρ : Sls} {a b e : Expr} {fa fb fe : M D} {es : List Expr} {fs : M (List D)} {pos p : Pos} {x : Str}
/-! ### d.get(k), d.get(k, x) -/
def M.get1 (fa fb : M D) : M D := fa.bind fun d => match d with
  | .dct kds => fb.bind fun k => match k.key with
    | some k => M.ret ((valD kds k).getD .non)
    | none => M.no
  | _ => M.no
def M.get2 (fa fb fe : M D) : M D := fa.bind fun d => match d with
  | .dct kds => fb.bind fun k => fe.bind fun z => match k.key with
    | some k => M.ret ((valD kds k).getD z)
    | none => M.no
  | _ => M.no
theorem val_getD {K : PySem.W.Frag} {mg : Str → Option Value} {k : Key} {kvs : List (Key × V)} {kds : List (Key × D)} {z : V} {zd : D} (k1 : kvs.map (·.1) = kds.map (·.1)) (t : Dts K mg F (kvs.map (·.2)) (kds.map (·.2))) (tz : Dt K mg F z zd) : Dt K mg F ((valV kvs k).getD z) ((valD kds k).getD zd) := by
  obtain ⟨h1, h2⟩ := val_of (k := k) k1 t
  cases e : valD kds k with
  | some d => obtain ⟨v, ev, dv⟩ := h1 d e; rw [ev]; exact dv
  | none => rw [h2 e]; exact tz
theorem m1_of {m : Str} {apos cpos : Pos} (base : attributeBase a m X.env (eval a X.env) = eval a X.env)
    (few : ((backTo cpos (starEach [b] X.env)).all (fun x => !x.1) && (backToKw cpos (keywordEach [] X.env)).all (fun x => x.1.isSome) && decide (([b] : List Expr).length + ([] : List Keyword).length + (if ([] : List Keyword).isEmpty then 0 else 1) < 30)) = true)
    (line : (apos.endLine == cpos.line) = true) (trees : backTo cpos (starEach [b] X.env) = [(false, eval b X.env)]) : M1 X a m apos b cpos := ⟨base, few, line, trees⟩
theorem de_get1 {n : Nat} {apos : Pos} (hr : Room n X.A) (ha : DE X c a fa) (hb : DE X c b fb) (m : M1 X a "get" apos b pos := by exact ⟨rfl, rfl, rfl, rfl⟩) : DE X c (.Call (.Attribute a "get" apos) [b] [] pos) (M.get1 fa fb) :=
  PEw (pe_dget1 (hu_of hr) ha hb m) fun σ H Q ⟨F, ρ, rr, h⟩ => ⟨F, ρ, rr, (Pst.bind h).mono (.refl _) fun x H1 ⟨F1, ρ1, d, r1, l1, t1, h1⟩ => by
    cases t1 with
    | @dct a od kvs kds e1 k1 tt =>
      refine ⟨a, rfl, .inl ⟨kvs, .inr ⟨od, r1.sub _ _ e1⟩⟩, F1, ρ1, r1, (Pst.bind h1).mono (.refl _) fun y H2 ⟨F2, ρ2, e, r2, l2, t2, h2⟩ => ?_⟩
      cases ek : e.key with
      | none => rw [ek] at h2; exact False.elim h2
      | some k =>
        rw [ek] at h2
        have ey := t2.key ek
        subst ey
        exact ⟨valV kvs k, .inl ⟨kvs, k, .inr ⟨od, r2.sub _ _ (l2 _ _ e1)⟩, rfl, rfl⟩, h2.ret r2 (val_getD k1 (tt.le l2) .non)⟩
    | _ => exact False.elim h1⟩
theorem de_get2 {n : Nat} {apos : Pos} (hr : Room n X.A) (ha : DE X c a fa) (hb : DE X c b fb) (he : DE X c e fe) (m : M2 X a "get" apos b e pos := by exact ⟨rfl, rfl, rfl, rfl⟩) : DE X c (.Call (.Attribute a "get" apos) [b, e] [] pos) (M.get2 fa fb fe) :=
  PEw (pe_dget2 (hu_of hr) ha hb he m) fun σ H Q ⟨F, ρ, rr, h⟩ => ⟨F, ρ, rr, (Pst.bind h).mono (.refl _) fun x H1 ⟨F1, ρ1, d, r1, l1, t1, h1⟩ => by
    cases t1 with
    | @dct a od kvs kds e1 k1 tt =>
      refine ⟨a, rfl, .inl ⟨kvs, .inr ⟨od, r1.sub _ _ e1⟩⟩, F1, ρ1, r1, (Pst.bind h1).mono (.refl _) fun y H2 ⟨F2, ρ2, e, r2, l2, t2, h2⟩ => ⟨F2, ρ2, r2, (Pst.bind h2).mono (.refl _) fun z H3 ⟨F3, ρ3, zd, r3, l3, t3, h3⟩ => ?_⟩⟩
      cases ek : e.key with
      | none => rw [ek] at h3; exact False.elim h3
      | some k =>
        rw [ek] at h3
        have ey := t2.key ek
        subst ey
        exact ⟨valV kvs k, .inl ⟨kvs, k, .inr ⟨od, r3.sub _ _ (l3 _ _ (l2 _ _ e1))⟩, rfl, rfl⟩, h3.ret r3 (val_getD k1 (tt.le (l2.trans l3)) t3)⟩
    | _ => exact False.elim h1⟩

/-! ### s.index(t) -/
def sIndexS (s t : Str) : M D := match Builtin.Str.occurrences s t 0 s.length 1 with
  | i :: _ => M.ret (.int (i : Nat))
  | [] => M.no
def gIndex : D → List D → M D
  | .str s, [.str t] => sIndexS s t
  | _, _ => M.no
theorem de_sindex {apos : Pos} (ho : DE X c a fa) (ha : DA X c [b] fs) (hbase : attributeBase a "index" X.env (eval a X.env) = eval a X.env := by rfl)
    (hfew : ((backTo pos (starEach [b] X.env)).all (fun x => !x.1) && (backToKw pos (keywordEach [] X.env)).all (fun x => x.1.isSome)
      && decide ([b].length + ([] : List Keyword).length + (if ([] : List Keyword).isEmpty then 0 else 1) < 30)) = true := by rfl)
    (hline : (apos.endLine == pos.line) = true := by rfl) (hs : starEach [b] X.env = (false, eval b X.env) :: starEach [] X.env := by rfl) (hplain : (backTo pos (starEach [] X.env)).any (·.1) = false := by rfl) :
    DE X c (.Call (.Attribute a "index" apos) [b] [] pos) (M.meth fa fs isS gIndex) :=
  de_meth PySem.F.plainAttrs_str PySem.F.slot_str_index PySem.F.type_str_index mt_sindex ⟨isS_ty, fun F H σ ρ x xs d ds Q rr t ts z h => by
    cases t with
    | str s =>
      rcases one_of ts with ⟨v, d, rfl, rfl, t⟩ | rfl | ⟨d0, d1, d2, rfl⟩
      · cases t with
        | str u =>
          have h : Pst c σ F (sIndexS s u ρ) Q := h
          unfold sIndexS at h
          cases e : Builtin.Str.occurrences s u 0 s.length 1 with
          | nil => rw [e] at h; exact False.elim h
          | cons i rest => rw [e] at h; exact ⟨s, u, i, rest, rfl, rfl, e, h.ret rr (.int _)⟩
        | _ => exact False.elim h
      · exact False.elim h
      · exact False.elim (by cases d0 <;> exact h)
    | _ => cases z⟩ ho ha hbase hfew hline hs hplain

/-! ### sum(a list of ints) -/
def intsD : List D → Option (List Int)
  | [] => some []
  | .int i :: ds => (intsD ds).map (i :: ·)
  | _ => none
theorem intsD_of {K : PySem.W.Frag} {mg : Str → Option Value} : ∀ {ds : List D} {xs : List V} {ns : List Int}, Dts K mg F xs ds → intsD ds = some ns → xs = ns.map V.int
  | [], _, _, .nil, e => by cases e; rfl
  | .int i :: ds, _, ns, .cons t tt, e => by
    obtain ⟨cs, e1, e2⟩ := Option.map_eq_some_iff.mp e
    subst e2
    cases t
    rw [intsD_of tt e1]; rfl
  | .non :: _, _, _, _, e => by cases e
  | .bl _ :: _, _, _, _, e => by cases e
  | .str _ :: _, _, _, _, e => by cases e
  | .lst _ :: _, _, _, _, e => by cases e
  | .rol _ :: _, _, _, _, e => by cases e
  | .tup _ :: _, _, _, _, e => by cases e
  | .dct _ :: _, _, _, _, e => by cases e
  | .ob _ _ :: _, _, _, _, e => by cases e
  | .ex _ _ :: _, _, _, _, e => by cases e
  | .ty _ :: _, _, _, _, e => by cases e
  | .cl _ :: _, _, _, _, e => by cases e
theorem intsD_map (ns : List Int) : intsD (ns.map .int) = some ns := by
  induction ns with
  | nil => rfl
  | cons i ns ih => simp [intsD, ih]
def sumL (ds : List D) : M D := M.of ((intsD ds).map fun ns => .int ns.sum)
def sumD : D → M D
  | .lst ds => sumL ds
  | .rol ds => sumL ds
  | _ => M.no
theorem de_sum (fx : Fit X c) (hc : X.calm = true) (hg : Gl X "sum") (hm : X.mg "sum" = none) (ha : DA X c [a] fs) (he : starEach [a] X.env = (false, eval a X.env) :: starEach [] X.env := by rfl) (hpl : (backTo pos (starEach [] X.env)).any (·.1) = false := by rfl) :
    DE X c (.Call (.Name "sum" p) [a] [] pos) (fs.bind (g1 sumD)) :=
  de_callB (cr_sum hc) (call1 fun F H σ ρ x d Q rr t q => by
    rw [fx.k]
    have key : ∀ {a : Addr} {xs : List V} {ds : List D}, SqL c.K H a xs → c.Dts F xs ds → Pst c σ F (sumL ds ρ) Q → rSum c.K [.ref a] H Q := fun {a xs ds} hs t q => by
      obtain ⟨w, ew, q⟩ := Pst.of q
      obtain ⟨ns, e1, e2⟩ := Option.map_eq_some_iff.mp ew
      subst e2
      exact ⟨a, ns, rfl, by rw [← intsD_of t e1]; exact hs, q.ret rr (.int _)⟩
    cases t with
    | @lst a xs ds e t => exact key (rr.sub.sqL e) t q
    | @rol a xs ds e t => exact key (SqL.le rr.sub e) t q
    | _ => exact False.elim q) hg hm (by decide +kernel) ha (by decide) (by decide) he hpl

/-! ### sorted: texts, ints; a dict's keys -/
def insS (x : Str) : List Str → List Str
  | [] => [x]
  | y :: r => if ltCps y.cps.toList x.cps.toList then y :: insS x r else x :: y :: r
def sortS (l : List Str) : List Str := l.foldr insS []
def insI (x : Int) : List Int → List Int
  | [] => [x]
  | y :: r => if y < x then y :: insI x r else x :: y :: r
def sortI (l : List Int) : List Int := l.foldr insI []
abbrev leS (a b : Str) : Prop := ltCps b.cps.toList a.cps.toList = false
theorem leS_iff {a b : Str} : leS a b ↔ a.cps.toList ≤ b.cps.toList := by
  unfold leS
  rw [ltCps_eq, decide_eq_false_iff_not, List.not_lt]
theorem leS_trans {a b d : Str} (h : leS a b) (k : leS b d) : leS a d := leS_iff.mpr (List.le_trans (leS_iff.mp h) (leS_iff.mp k))
theorem leS_anti {a b : Str} (h : leS a b) (k : leS b a) : a = b := by
  have := List.le_antisymm (leS_iff.mp h) (leS_iff.mp k)
  cases a; cases b
  simp only [Str.mk.injEq]
  exact Array.toList_inj.mp this
theorem leS_total (a b : Str) : leS a b ∨ leS b a := by
  rcases List.le_total a.cps.toList b.cps.toList with h | h
  · exact .inl (leS_iff.mpr h)
  · exact .inr (leS_iff.mpr h)
theorem rising_pw : ∀ (p : Str) (l : List Str), risingS p l = true → (p :: l).Pairwise leS
  | p, [], _ => by simp
  | p, x :: r, h => by
    simp only [risingS, Bool.and_eq_true, Bool.not_eq_true'] at h
    have t := rising_pw x r h.2
    refine List.pairwise_cons.mpr ⟨fun y hy => ?_, t⟩
    rcases List.mem_cons.mp hy with rfl | hy
    · exact h.1
    · exact leS_trans h.1 ((List.pairwise_cons.mp t).1 y hy)
theorem sortedS_pw : ∀ (l : List Str), sortedS l = true → l.Pairwise leS
  | [], _ => .nil
  | x :: r, h => rising_pw x r h
theorem insS_perm (x : Str) : ∀ l : List Str, (insS x l).Perm (x :: l)
  | [] => .refl _
  | y :: r => by
    unfold insS
    split
    · exact ((insS_perm x r).cons y).trans (.swap x y r)
    · exact .refl _
theorem sortS_perm : ∀ l : List Str, (sortS l).Perm l
  | [] => .refl _
  | x :: l => (insS_perm x _).trans ((sortS_perm l).cons x)
theorem insS_pw (x : Str) : ∀ l : List Str, l.Pairwise leS → (insS x l).Pairwise leS
  | [], _ => by simp [insS]
  | y :: r, h => by
    obtain ⟨h1, h2⟩ := List.pairwise_cons.mp h
    unfold insS
    split
    · next q =>
      refine List.pairwise_cons.mpr ⟨fun z hz => ?_, insS_pw x r h2⟩
      rcases List.mem_cons.mp ((insS_perm x r).mem_iff.mp hz) with rfl | hz
      · rcases leS_total y z with k | k
        · exact k
        · rw [show ltCps y.cps.toList z.cps.toList = false from k] at q; cases q
      · exact h1 z hz
    · next q =>
      have k : leS x y := by simpa using q
      refine List.pairwise_cons.mpr ⟨fun z hz => ?_, h⟩
      rcases List.mem_cons.mp hz with rfl | hz
      · exact k
      · exact leS_trans k (h1 z hz)
theorem sortS_pw : ∀ l : List Str, (sortS l).Pairwise leS
  | [] => .nil
  | x :: l => insS_pw x _ (sortS_pw l)
theorem sortS_uniq {l ys : List Str} (hp : ys.Perm l) (h : ys.Pairwise leS) : ys = sortS l :=
  (hp.trans (sortS_perm l).symm).eq_of_pairwise (fun x y _ _ h1 h2 => leS_anti h1 h2) h (sortS_pw l)
theorem insI_perm (x : Int) : ∀ l : List Int, (insI x l).Perm (x :: l)
  | [] => .refl _
  | y :: r => by
    unfold insI
    split
    · exact ((insI_perm x r).cons y).trans (.swap x y r)
    · exact .refl _
theorem sortI_perm : ∀ l : List Int, (sortI l).Perm l
  | [] => .refl _
  | x :: l => (insI_perm x _).trans ((sortI_perm l).cons x)
theorem insI_pw (x : Int) : ∀ l : List Int, l.Pairwise (· ≤ ·) → (insI x l).Pairwise (· ≤ ·)
  | [], _ => by simp [insI]
  | y :: r, h => by
    obtain ⟨h1, h2⟩ := List.pairwise_cons.mp h
    unfold insI
    split
    · next q =>
      refine List.pairwise_cons.mpr ⟨fun z hz => ?_, insI_pw x r h2⟩
      rcases List.mem_cons.mp ((insI_perm x r).mem_iff.mp hz) with rfl | hz
      · omega
      · exact h1 z hz
    · next q =>
      refine List.pairwise_cons.mpr ⟨fun z hz => ?_, h⟩
      rcases List.mem_cons.mp hz with rfl | hz
      · omega
      · have := h1 z hz; omega
theorem sortI_pw : ∀ l : List Int, (sortI l).Pairwise (· ≤ ·)
  | [] => .nil
  | x :: l => insI_pw x _ (sortI_pw l)
theorem sortI_uniq {l ys : List Int} (hp : ys.Perm l) (h : ys.Pairwise (· ≤ ·)) : ys = sortI l :=
  (hp.trans (sortI_perm l).symm).eq_of_pairwise (fun x y _ _ h1 h2 => Int.le_antisymm h1 h2) h (sortI_pw l)
theorem dts_strs {K : PySem.W.Frag} {mg : Str → Option Value} (ys : List Str) : Dts K mg F (ys.map V.str) (ys.map D.str) := by
  induction ys with
  | nil => exact .nil
  | cons i ns ih => exact .cons (.str i) ih
def keysS : List Key → Option (List Str)
  | [] => some []
  | .inr x :: ks => (keysS ks).map (x :: ·)
  | _ => none
theorem keysS_of : ∀ {ks : List Key} {xs : List Str}, keysS ks = some xs → ks = xs.map Sum.inr
  | [], _, e => by cases e; rfl
  | .inr x :: ks, xs, e => by
    obtain ⟨cs, e1, e2⟩ := Option.map_eq_some_iff.mp e
    subst e2
    rw [keysS_of e1]; rfl
  | .inl _ :: _, _, e => by cases e
def sortL (ds : List D) : M D := match txts ds with
  | some xs => M.grd (xs.length < 64) (M.ret (.lst ((sortS xs).map .str)))
  | none => match intsD ds with
    | some ns => M.grd (ns.length < 64) (M.ret (.lst ((sortI ns).map .int)))
    | none => M.no
def sortD : D → M D
  | .lst ds => sortL ds
  | .rol ds => sortL ds
  | .dct kds => match keysS (kds.map (·.1)) with
    | some xs => M.grd (xs.length < 64) (M.ret (.lst ((sortS xs).map .str)))
    | none => M.no
  | _ => M.no
theorem de_sorted (fx : Fit X c) (hc : X.calm = true) (hg : Gl X "sorted") (hm : X.mg "sorted" = none) (ha : DA X c [a] fs) (he : starEach [a] X.env = (false, eval a X.env) :: starEach [] X.env := by rfl) (hpl : (backTo pos (starEach [] X.env)).any (·.1) = false := by rfl) :
    DE X c (.Call (.Name "sorted" p) [a] [] pos) (fs.bind (g1 sortD)) :=
  de_callB ((cr_sortedS (X := X)).or ((cr_sorted (X := X)).or (call_sortedD hc))) (call1 fun F H σ ρ x d Q rr t q => by
    rw [fx.k]
    have key : ∀ {a : Addr} {xs : List V} {ds : List D}, SqL c.K H a xs → c.Dts F xs ds → Pst c σ F (sortL ds ρ) Q → rSortedS c.K [.ref a] H Q ∨ rSorted c.K [.ref a] H Q := fun {a xs ds} hs t q => by
      unfold sortL at q
      cases e : txts ds with
      | some ys =>
        rw [e] at q
        obtain ⟨z, q⟩ := Pst.grd q
        refine .inl ⟨a, ys, rfl, by rw [← txts_of t e]; exact hs, z, fun zs p hp hz hn => ?_⟩
        rw [sortS_uniq hp (sortedS_pw _ hz)]
        exact q.newLst rr (dts_strs _) hn
      | none =>
        rw [e] at q
        cases e2 : intsD ds with
        | some ns =>
          rw [e2] at q
          obtain ⟨z, q⟩ := Pst.grd q
          refine .inr ⟨a, ns, rfl, by rw [← intsD_of t e2]; exact hs, z, fun zs p hp hz hn => ?_⟩
          rw [sortI_uniq hp hz]
          exact q.newLst rr (dts_ints _) hn
        | none => rw [e2] at q; exact False.elim q
    cases t with
    | @lst a xs ds e t => exact (key (rr.sub.sqL e) t q).elim .inl fun h => .inr (.inl h)
    | @rol a xs ds e t => exact (key (SqL.le rr.sub e) t q).elim .inl fun h => .inr (.inl h)
    | @dct a od kvs kds e k t =>
      have q : Pst c σ F ((match keysS (kds.map (·.1)) with
        | some xs => M.grd (xs.length < 64) (M.ret (.lst ((sortS xs).map .str)))
        | none => M.no : M D) ρ) Q := q
      cases e2 : keysS (kds.map (·.1)) with
      | none => rw [e2] at q; exact False.elim q
      | some ys =>
        rw [e2] at q
        obtain ⟨z, q⟩ := Pst.grd q
        refine .inr (.inr ⟨a, kvs, ys, rfl, .inr ⟨od, rr.sub _ _ e⟩, by rw [k]; exact keysS_of e2, z, fun zs p hp hz hn => ?_⟩)
        rw [sortS_uniq hp (sortedS_pw _ hz)]
        exact q.newLst rr (dts_strs _) hn
    | _ => exact False.elim q) hg hm (by decide +kernel) ha (by decide) (by decide) he hpl
end
end DL

set_option Elab.async false
set_option linter.all false
set_option maxRecDepth 100000
set_option maxHeartbeats 4000000
/-! DM2: x[::-1] of lists, tuples, texts. -/
namespace DL
open PySem PySem.Spec PyProof.Rows L2
section
variable {prog : Program} {w : World} {A : Around} {E : Value → Shared → Prop} {s : Shared}
theorem adjust_rev (n : Nat) : Builtin.Slice.sliceAdjust none none (-1) (n : Int) = ((n : Int) - 1, -1) := rfl
theorem places_rev (n : Nat) : Builtin.Slice.slicePlaces ((n : Int) - 1) (-1) (-1) = n := by
  unfold Builtin.Slice.slicePlaces
  rw [if_neg (by decide)]
  by_cases h : (n : Int) - 1 > -1
  · rw [if_pos h]
    have e : (- -1 : Int) = 1 := by decide
    rw [e, Int.ediv_one]; omega
  · rw [if_neg h]; omega
theorem sliceApplied_rev {sl : Addr} {vl vu vs : Value} {n : Nat} {Q : Int × Int × Nat → Shared → Prop} (hs : s.heap.IsSliceOf sl vl vu vs) (pl : IsPart vl none) (pu : IsPart vu none) (ps : IsPart vs (some (-1)))
    (h : Q ((n : Int) - 1, -1, n) s) : wpAny (model prog w) A (Builtin.Slice.sliceApplied (.ref sl) (pure (n : Int))) Q E s := by
  obtain ⟨os, hos, hcs, hds⟩ := id hs
  unfold Builtin.Slice.sliceApplied Builtin.Slice.sliceFields
  refine wpAny_bind (wpAny_bind (wpAny_field hos hds (x := vl) rfl (wpAny_bind (wpAny_field hos hds (x := vu) rfl (wpAny_bind (wpAny_field hos hds (x := vs) rfl (wpAny_pure ?_)))))))
  refine wpAny_bind (HT.slicePart_ ps ?_)
  show wpAny _ _ (if ((-1 : Int) == 0) = true then _ else _) _ _ s
  rw [if_neg (by decide)]
  refine wpAny_bind (HT.slicePart_ pl (wpAny_bind (HT.slicePart_ pu (wpAny_bind (wpAny_pure ?_)))))
  show wpAny _ _ (match Builtin.Slice.sliceAdjust none none (-1) (n : Int) with | (lo, hi) => pure (lo, (-1 : Int), Builtin.Slice.slicePlaces lo hi (-1))) _ _ s
  rw [adjust_rev n]
  show wpAny _ _ (pure ((n : Int) - 1, (-1 : Int), Builtin.Slice.slicePlaces ((n : Int) - 1) (-1) (-1))) _ _ s
  rw [places_rev]
  exact wpAny_pure h
theorem pick_rev (xs : Array Value) : ((List.range xs.size).filterMap fun (m : Nat) => xs[(((xs.size : Nat) : Int) - 1 + (m : Int) * (-1)).toNat]?).toArray = xs.toList.reverse.toArray := by
  congr 1
  have e : ((List.range xs.size).filterMap fun (m : Nat) => xs[(((xs.size : Nat) : Int) - 1 + (m : Int) * (-1)).toNat]?) = (((List.range xs.size).map fun k => xs.size - 1 - k).filterMap fun i => xs[i]?) := by
    rw [List.filterMap_map]
    have : ∀ l : List Nat, (∀ m ∈ l, m < xs.size) → l.filterMap (fun (m : Nat) => xs[(((xs.size : Nat) : Int) - 1 + (m : Int) * (-1)).toNat]?) = l.filterMap ((fun i => xs[i]?) ∘ fun k => xs.size - 1 - k) := by
      intro l
      induction l with
      | nil => intro _; rfl
      | cons a l ih =>
        intro h
        have ha := h a (List.mem_cons_self ..)
        have e2 : (((xs.size : Nat) : Int) - 1 + (a : Int) * (-1)).toNat = xs.size - 1 - a := by omega
        simp only [List.filterMap_cons, Function.comp_apply, e2]
        rw [ih fun m hm => h m (List.mem_cons_of_mem _ hm)]
    exact this _ fun m hm => List.mem_range.mp hm
  rw [e, PySem.W.krv_range, List.filterMap_reverse, PySem.W.krv_all]
theorem getItem_tuple_rev {t sl : Addr} {items : Array Value} {vl vu vs : Value} {Q : Value → Shared → Prop} (ht : IsTup s.heap t items) (hs : s.heap.IsSliceOf sl vl vu vs) (pl : IsPart vl none) (pu : IsPart vu none) (ps : IsPart vs (some (-1)))
    (h : Q (.ref s.heap.objs.size) { s with heap := s.heap.push { cls := .type "tuple", data := .seq items.toList.reverse.toArray } }) (hsz : items.size ≤ sizeLine) : wpAny (model prog w) A (getItem (.ref t) (.ref sl)) Q E s := by
  have htake : sizeOk (.seq items.toList.reverse.toArray) := by
    show items.toList.reverse.toArray.size ≤ sizeLine
    simpa using hsz
  obtain ⟨os, hos, hcs, hds⟩ := id hs
  have hTs : s.TypeIs (.ref sl) "slice" := ⟨os, hos, hcs⟩
  unfold getItem
  try with_reducible refine wpAny_holding ?_
  first | refine wpAny_bind (wpAny_pure ?_) | skip
  refine wpAny_bind (wpAny_sequenceKey ht.typeIs (by decide) ?_)
  refine wpAny_bind (wpAny_callSpecial?_slot (name := Str.ofString "__getitem__") ht.typeIs PyProof.Rows.slot_tuple_getitem
    (wpAny_call_entry PyProof.Rows.slot_tuple_getitem ht.typeIs entry_tuple_getitem ?_ (args_tuple_getitem _ _)))
  show wpAny _ _ (Builtin.Tuple.tupleItemsOf (.ref t) >>= _) _ _ s
  refine wpAny_bind (tupleItemsOf_ ht ?_)
  refine wpAny_bind (wpAny_typeOf hTs ?_)
  rw [if_pos (by decide)]
  refine wpAny_bind (sliceApplied_rev hs pl pu ps ?_)
  have hno : ¬ ((((items.size : Nat) : Int) - 1 == 0 && (-1 : Int) == 1 && items.size == items.size) = true) := by
    intro q
    rw [Bool.and_eq_true, Bool.and_eq_true] at q
    exact absurd q.1.2 (by decide)
  show wpAny _ _ (if (((items.size : Nat) : Int) - 1 == 0 && (-1 : Int) == 1 && items.size == items.size) = true then _ else _) _ _ s
  rw [if_neg hno, pick_rev]
  first
    | exact wpAny_bind (m := Builtin.Tuple.tupleExact _) (wpAny_newObj_type (wpAny_pure ⟨_, rfl, wpAny_pure h⟩) htake)
    | exact wpAny_bind (m := Builtin.Tuple.tupleExact _) (wpAny_newObj_type (wpAny_bind (wpAny_pure (wpAny_pure ⟨_, rfl, wpAny_pure h⟩))) htake)
    | exact wpAny_bind (wpAny_bind (m := Builtin.Tuple.tupleExact _) (wpAny_newObj_type (wpAny_pure (wpAny_pure ⟨_, rfl, wpAny_pure h⟩)) htake))
    | exact wpAny_bind (wpAny_bind (m := Builtin.Tuple.tupleExact _) (wpAny_newObj_type (wpAny_pure ⟨_, rfl, wpAny_pure h⟩) htake))
end
def revS (z : Str) : Str := ⟨z.cps.toList.reverse.toArray⟩
theorem revS_len (z : Str) : (revS z).length = z.length := by simp [revS, Str.length]
/-- x[::-1] -/
def tRev (K : PySem.W.Frag) (te : TE) : TE := fun σ H Q => te σ H fun x H1 => (∃ a xs, x = .ref a ∧ SqL K H1 a xs ∧ ∀ p, H1 p = none → Q (.ref p) (upd H1 p (.lst xs.reverse))) ∨
  (∃ a xs, x = .ref a ∧ SqT K H1 a xs ∧ ∀ p, H1 p = none → Q (.ref p) (upd H1 p (.tup xs.reverse))) ∨ ∃ z, x = .str z ∧ z.length ≤ sizeLine ∧ Q (.str (revS z)) H1
theorem strPick_rev (z : Str) (u : Tok) : (⟨((slicePicked z none none (some (-1, u))).filterMap (z.cps[·]?)).toArray⟩ : Str) = revS z := by
  show (⟨((Builtin.Str.strSliceIndices none none (-1) z.length).filterMap (z.cps[·]?)).toArray⟩ : Str) = revS z
  have e : Builtin.Str.strSliceIndices none none (-1) z.length = (List.range z.length).reverse := by rw [picked_rev, PySem.W.krv_range]
  have e2 : (List.range z.length).filterMap (z.cps[·]?) = z.cps.toList := PySem.W.krv_all z.cps
  unfold revS
  rw [e, List.filterMap_reverse, e2]
section
variable {X : Cx}
theorem pe_rev {e : Expr} {te : TE} {k : Nat} {p1 p2 p3 pos : Pos} (he : PE X e te) : PE X (.Subscript e (.Slice none none (some (.UnaryOp .USub (.Constant (.int 1) k p1) p2)) p3) pos) (tRev X.K te) := by
  refine ⟨fun pins s σ H Q I h => ?_⟩
  refine Subscript_ (thn (he.run pins s σ H _ I h) fun v s1 ⟨x, H1, I1, r1, q1⟩ => ?_)
  have hst : PO X (some (.UnaryOp .USub (.Constant (.int 1) k p1) p2)) (tPart (tUn (rU fun i => .int (-i)) (tC (.int 1)))) := po_some (pe_un un_neg pe_int)
  refine wpAny_Slice (thn (po_none.run pins s1 σ H1 (fun o H2 => o = none ∧ H2 = H1) I1 ⟨rfl, rfl⟩) fun vl s2 ⟨l, H2, I2, pl, el, e2⟩ => ?_)
  subst el e2
  refine thn (po_none.run pins s2 σ H2 (fun o H3 => o = none ∧ H3 = H2) I2 ⟨rfl, rfl⟩) fun vu s3 ⟨u, H3, I3, pu, eu, e3⟩ => ?_
  subst eu e3
  refine thn (hst.run pins s3 σ H3 (fun o H4 => o = some (-1) ∧ H4 = H3) I3 ⟨1, rfl, -1, rfl, rfl, rfl⟩) fun vs s4 ⟨o, H4, I4, ps, eo, e4⟩ => ?_
  subst eo e4
  have I5 : Inv X pins σ H4 { s4 with heap := s4.heap.push { cls := .type "slice", data := .fields #[vl, vu, vs] } } := I4.kept (t' := s4.toks) fun b ob q => Heap.get?_push_of_some _ q
  rcases q1 with ⟨a, xs, ex, hx, q⟩ | ⟨a, xs, ex, hx, q⟩ | ⟨z, ex, hz, q⟩
  · subst ex
    cases r1
    obtain ⟨its, r, ht, hz⟩ := I5.list hx
    have hlen := r.length
    show wpAny (model X.prog X.w) X.A (subscriptTail e (.Slice none none (some (.UnaryOp .USub (.Constant (.int 1) k p1) p2)) p3) (.ref a) (.ref s4.heap.objs.size)) (EP X pins σ Q) X.xe { s4 with heap := s4.heap.push { cls := .type "slice", data := .fields #[vl, vu, vs] } }
    refine tail_any (ops := [.ref a, .ref s4.heap.objs.size]) ht.isList.typeIs (PySem.slot_list_getitem.lookup) ?_ (by with_unfolding_all rfl)
    refine wpAny_getItem_list_slice ht.isList (Heap.IsSliceOf.new _ vl vu vs) pl pu ps (by decide) ?_ (by rw [List.size_toArray]; omega)
    rw [PySem.W.krv_pick]
    refine ⟨.ref _, _, I5.laid (t' := s4.toks) (o := .lst xs.reverse) (fun b ob q => Heap.get?_push_of_some _ q) (Nat.le_refl _) ?_, rfl, q _ (I5.hok.fresh (Nat.le_refl _))⟩
    exact ⟨by rw [List.length_reverse]; exact hz, _, 0, r.reverse, Heap.get?_push_size _ rfl⟩
  · subst ex
    cases r1
    obtain ⟨its, r, ht, hz⟩ := I5.tuple hx
    have hlen := r.length
    show wpAny (model X.prog X.w) X.A (subscriptTail e (.Slice none none (some (.UnaryOp .USub (.Constant (.int 1) k p1) p2)) p3) (.ref a) (.ref s4.heap.objs.size)) (EP X pins σ Q) X.xe { s4 with heap := s4.heap.push { cls := .type "slice", data := .fields #[vl, vu, vs] } }
    refine tail_any (ops := [.ref a, .ref s4.heap.objs.size]) ht.typeIs (PyProof.Rows.slot_tuple_getitem.lookup) ?_ (by with_unfolding_all rfl)
    refine getItem_tuple_rev ht (Heap.IsSliceOf.new _ vl vu vs) pl pu ps ?_ (by rw [List.size_toArray]; omega)
    refine ⟨.ref _, _, I5.laid (t' := s4.toks) (o := .tup xs.reverse) (fun b ob q => Heap.get?_push_of_some _ q) (Nat.le_refl _) ?_, rfl, q _ (I5.hok.fresh (Nat.le_refl _))⟩
    exact ⟨by rw [List.length_reverse]; exact hz, _, r.reverse, IsTup.new _ _⟩
  · subst ex
    obtain ⟨t, rfl⟩ := r1
    show wpAny (model X.prog X.w) X.A (subscriptTail e (.Slice none none (some (.UnaryOp .USub (.Constant (.int 1) k p1) p2)) p3) (.str z t) (.ref s4.heap.objs.size)) (EP X pins σ Q) X.xe { s4 with heap := s4.heap.push { cls := .type "slice", data := .fields #[vl, vu, vs] } }
    refine tail_any (ops := [.str z t, .ref s4.heap.objs.size]) (typeIs_str _ z t) (F.slot_str_getitem.lookup) ?_ (by with_unfolding_all rfl)
    cases pl
    cases pu
    cases ps with
    | int _ tk =>
      refine wpAny_getItem_str_slice (l := none) (u := none) (st := some (-1, tk)) ⟨_, Heap.get?_push_size _ rfl, rfl, rfl⟩ rfl ?_
      have hno : ¬ (((some ((-1 : Int), tk)).map (·.1)).getD 1 == 1 && (slicePicked z none none (some (-1, tk))).length == z.length) = true := by
        intro q
        rw [Bool.and_eq_true] at q
        have z : ((-1 : Int) == 1) = true := q.1
        exact absurd z (by decide)
      unfold sliceMade
      rw [if_neg hno, strPick_rev]
      exact ⟨by rw [revS_len]; exact hz, .str _, H4, I5.tok _, ⟨_, rfl⟩, q⟩
end
section
variable {X : Cx} {c : Fc} {F H : Hp} {σ : L2.St} {ρ : Sls} {a b e : Expr} {fa fb fe : M D} {pos p1 p2 p3 : Pos}
theorem Dts.rev {K : PySem.W.Frag} {mg : Str → Option Value} {vs : List V} {ds : List D} (t : Dts K mg F vs ds) : Dts K mg F vs.reverse ds.reverse := t.reverse
def gRev : D → M D
  | .lst ds => M.ret (.lst ds.reverse)
  | .rol ds => M.ret (.lst ds.reverse)
  | .tup ds => M.ret (.tup ds.reverse)
  | .str z => M.grd (lineS z) (M.ret (.str (revS z)))
  | _ => M.no
theorem de_rev {k : Nat} (fx : Fit X c) (ha : DE X c a fa) : DE X c (.Subscript a (.Slice none none (some (.UnaryOp .USub (.Constant (.int 1) k p1) p2)) p3) pos) (fa.bind gRev) :=
  PEw (pe_rev ha) fun σ H Q ⟨F, ρ, rr, h⟩ => ⟨F, ρ, rr, (Pst.bind h).mono (.refl _) fun x H1 ⟨F1, ρ1, d, r1, l1, t1, h1⟩ => by
    rw [fx.k]
    cases t1 with
    | @lst a xs ds e t => exact .inl ⟨a, xs, rfl, r1.sub.sqL e, fun p hp => h1.newLst r1 t.reverse hp⟩
    | @rol a xs ds e t => exact .inl ⟨a, xs, rfl, SqL.le r1.sub e, fun p hp => h1.newLst r1 t.reverse hp⟩
    | @tup a xs ds e t => exact .inr (.inl ⟨a, xs, rfl, SqT.le r1.sub e, fun p hp => h1.newTup r1 t.reverse hp⟩)
    | str z =>
      obtain ⟨hz, h1⟩ := Pst.grdB (p := lineS z) h1
      exact .inr (.inr ⟨z, rfl, lineS_of hz, h1.ret r1 (.str _)⟩)
    | _ => exact False.elim h1⟩
end
end DL

set_option Elab.async false
set_option linter.all false
set_option maxRecDepth 100000
set_option maxHeartbeats 4000000
/-! DM3: dicts of the module: NAME[k], NAME.get(k). -/
namespace DL
open PySem PySem.Spec PyProof.Rows L2
/-- the entries of a written dict stand for these pairs -/
def EntLit (P : Program) (w : World) : List DictEntry → List (Key × V) → Prop
  | [], [] => True
  | e :: es, kv :: kvs => ((mixKind P w).is kv.1 e.key = true ∧ e.hash = (mixKind P w).hash kv.1 ∧ RelV kv.2 e.val) ∧ EntLit P w es kvs
  | _, _ => False
/-- a dict of the module, known to the object -/
structure KDi (P : Program) (w : World) (K : PySem.W.Frag) (a : Addr) (kvs : List (Key × V)) : Prop where
  ex : ∃ es n, K.lookup a = some ⟨.type "dict", none, .dict es n, #[]⟩ ∧ EntLit P w es.toList kvs
  nd : (kvs.map (·.1)).Nodup
  low : (a == sysModules) = false
theorem EntLit.pairs {P : Program} {w : World} : ∀ {es : List DictEntry} {kvs : List (Key × V)}, EntLit P w es kvs → ∃ vs, KV kvs vs ∧ Pairs (mixKind P w) es vs ∧ vs.map (·.1) = kvs.map (·.1) ∧ ∀ e ∈ es, ∃ k, (mixKind P w).is k e.key = true ∧ e.hash = (mixKind P w).hash k
  | [], [], _ => ⟨[], .nil, .nil, rfl, fun _ h => by cases h⟩
  | e :: es, kv :: kvs, ⟨⟨h1, h2, h3⟩, h⟩ => by
    obtain ⟨vs, q1, q2, q3, q4⟩ := EntLit.pairs h
    refine ⟨(kv.1, e.val) :: vs, .cons ⟨rfl, h3⟩ q1, .cons h1 rfl q2, by simp [q3], fun e' he => ?_⟩
    rcases List.mem_cons.mp he with rfl | he
    · exact ⟨kv.1, h1, h2⟩
    · exact q4 _ he
  | [], _ :: _, h => h.elim
  | _ :: _, [], h => h.elim
theorem KDi.at {P : Program} {w : World} {K : PySem.W.Frag} {a : Addr} {kvs : List (Key × V)} {h : Heap} (D : KDi P w K a kvs) (X : K.In h) : ∃ vs, KV kvs vs ∧ h.DictOf (mixKind P w) a vs := by
  obtain ⟨es, n, hl, he⟩ := D.ex
  obtain ⟨vs, q1, q2, q3, q4⟩ := he.pairs
  exact ⟨vs, q1, _, es, n, X _ _ hl, ⟨rfl, rfl, rfl⟩, rfl, fun e h => q4 e (Array.mem_toList_iff.mpr h), q2, by rw [q3]; exact D.nd⟩
/-- .. as data -/
structure KDB (P : Program) (w : World) (K : PySem.W.Frag) (mg : Str → Option Value) (x : Str) (kds : List (Key × D)) : Prop where
  ex : ∃ a kvs, mg x = some (.ref a) ∧ KDi P w K a kvs ∧ kvs.map (·.1) = kds.map (·.1) ∧ ∀ F, Dts K mg F (kvs.map (·.2)) (kds.map (·.2))
def scalD : D → Option V
  | .int i => some (.int i)
  | .str x => some (.str x)
  | .bl b => some (.bl b)
  | .non => some .non
  | _ => none
def scalsD : List (Key × D) → Option (List (Key × V))
  | [] => some []
  | (k, d) :: r => (scalD d).bind fun v => (scalsD r).map ((k, v) :: ·)
theorem scalD_dt {K : PySem.W.Frag} {mg : Str → Option Value} {F : Hp} {d : D} {v : V} (h : scalD d = some v) : Dt K mg F v d := by
  cases d <;> simp only [scalD, Option.some.injEq, reduceCtorEq] at h <;> subst h <;> constructor
theorem scalsD_dts {K : PySem.W.Frag} {mg : Str → Option Value} {F : Hp} : ∀ {kds : List (Key × D)} {kvs : List (Key × V)}, scalsD kds = some kvs → kvs.map (·.1) = kds.map (·.1) ∧ Dts K mg F (kvs.map (·.2)) (kds.map (·.2))
  | [], _, h => by cases h; exact ⟨rfl, .nil⟩
  | (k, d) :: r, kvs, h => by
    obtain ⟨v, h1, h2⟩ := Option.bind_eq_some_iff.mp h
    obtain ⟨vs, h3, h4⟩ := Option.map_eq_some_iff.mp h2
    subst h4
    obtain ⟨q1, q2⟩ := scalsD_dts h3
    exact ⟨by simp [q1], .cons (scalD_dt h1) q2⟩
theorem kdb_of {P : Program} {w : World} {K : PySem.W.Frag} {mg : Str → Option Value} {x : Str} {kds : List (Key × D)} {kvs : List (Key × V)} {a : Addr} {es : Array DictEntry} {n : Nat} (hm : mg x = some (.ref a)) (hl : K.lookup a = some ⟨.type "dict", none, .dict es n, #[]⟩) (hs : scalsD kds = some kvs)
    (he : EntLit P w es.toList kvs) (hn : (kvs.map (·.1)).Nodup) (low : (a == sysModules) = false) : KDB P w K mg x kds :=
  ⟨a, kvs, hm, ⟨⟨es, n, hl, he⟩, hn, low⟩, (scalsD_dts (K := K) (mg := mg) (F := fun _ => none) hs).1, fun F => (scalsD_dts hs).2⟩
section
variable {X : Cx} {c : Fc} {F H : Hp} {σ : L2.St} {ρ : Sls} {a b e : Expr} {fa fb fe : M D} {pos p : Pos} {x : Str} {kds : List (Key × D)}
theorem ix_kdi {ad : Addr} {kvs : List (Key × V)} (Dd : KDi X.prog X.w X.K ad kvs) : IxR X fun x y H Q => ∃ k v, x = .ref ad ∧ y = kV k ∧ valV kvs k = some v ∧ Q v H := by
  intro value slice pins s σ H x y v u Q I rx ry h hs
  obtain ⟨k, r, rfl, rfl, e, q⟩ := h
  obtain rfl : v = Value.ref ad := rx
  obtain ⟨vs, rel, dd⟩ := Dd.at I.kIn
  obtain ⟨w', hw, rw'⟩ := RelO.some_of (v := r) (o := valueAt vs k) (by rw [← e]; exact rel.val k)
  exact tail_any dd.typeIs slot_dict_getitem.lookup (wpAny_getItem_of (kV_is ry) dd.mapOf hw ⟨r, H, I.tok _, rw', q⟩) hs
def gKx (kds : List (Key × D)) (d : D) : M D := match d.key with
  | some k => M.of (valD kds k)
  | none => M.no
def gKg (kds : List (Key × D)) (d : D) : M D := match d.key with
  | some k => M.ret ((valD kds k).getD .non)
  | none => M.no
theorem de_kdx (fx : Fit X c) (h : KDB X.prog X.w X.K X.mg x kds) (hg : Gl X x) (hb : DE X c b fb) (hd : (x == ("__debug__" : Str)) = false := by decide) (hs : PlainIx b := by exact fun _ _ => rfl) : DE X c (.Subscript (.Name x p) b pos) (fb.bind (gKx kds)) := by
  obtain ⟨ad, kvs, hm, Dd, k1, t⟩ := h.ex
  refine PEw (pe_ix (ix_kdi Dd) (pe_glob (v := .ref ad) hg hm rfl hd) hb hs) fun σ H Q ⟨F, ρ, rr, h⟩ => ?_
  refine ⟨F, ρ, rr, (Pst.bind h).mono (.refl _) fun y H1 ⟨F1, ρ1, d, r1, l1, t1, h1⟩ => ?_⟩
  unfold gKx at h1
  cases ek : d.key with
  | none => rw [ek] at h1; exact False.elim h1
  | some k =>
    rw [ek] at h1
    obtain ⟨w, ew, h1⟩ := Pst.of h1
    have tt := t F1
    rw [fx.k, fx.mg] at tt
    obtain ⟨v, ev, dv⟩ := (val_of k1 tt).1 w ew
    exact ⟨k, v, rfl, t1.key ek, ev, h1.ret r1 dv⟩
theorem pe_kget {ad : Addr} {kvs : List (Key × V)} {apos cpos : Pos} {tb : TE} (Dd : KDi X.prog X.w X.K ad kvs) (hg : Gl X x) (hm : X.mg x = some (.ref ad)) (hd : (x == ("__debug__" : Str)) = false) (he : PE X e tb) (m : M1 X (.Name x p) "get" apos e cpos) :
    PE X (.Call (.Attribute (.Name x p) "get" apos) [e] [] cpos) fun σ H Q => tb σ H fun y H2 => ∃ k, y = kV k ∧ Q ((valV kvs k).getD .non) H2 := by
  refine ⟨fun pins s σ H Q I h => ?_⟩
  have hn : PE X (.Name x p) (tC (.ref ad)) := pe_glob (v := .ref ad) hg hm rfl hd
  refine wpAny_Call_method m.base m.few m.line PySem.F.plainAttrs_dict PySem.F.slot_dict_get PySem.F.type_dict_get (thn (hn.run pins s σ H (fun v H1 => v = .ref ad ∧ H1 = H) I ⟨rfl, rfl⟩) fun u s1 ⟨x0, H1, I1, rx, ex, eh⟩ => ?_)
  subst ex eh
  obtain rfl : u = Value.ref ad := rx
  obtain ⟨vs, rel, dd⟩ := Dd.at I1.kIn
  refine ⟨dd.typeIs, fun b q => ?_, ?_⟩
  · cases q
    obtain ⟨ob, _, _, h1, h2, _⟩ := dd
    exact ⟨ob, h1, h2.2.1⟩
  rw [m.trees]
  refine Calls.callWith_builtin rfl (Calls.evalArgs_plain (Calls.spliced_cons (thn (he.run pins s1 σ H1 _ I1 h) fun iv s2 ⟨y, H2, I2, ry, k, ey, q2⟩ => Calls.spliced_nil ?_)))
  subst ey
  obtain ⟨vs2, rel2, dd2⟩ := Dd.at I2.kIn
  exact call_meetsIn PySem.F.slot_dict_get dd2.typeIs PySem.F.entry_dict_get (PySem.F.args_dict_get_2 _ _) (meets_dict_get (mixKind X.prog X.w) ad (kV_is ry) Dd.low) ⟨_, dd2.mapOf, _, H2, I2.tok _, (rel2.val k).getD (show RelV .non Value.none from rfl), q2⟩
theorem de_kget {apos : Pos} (fx : Fit X c) (h : KDB X.prog X.w X.K X.mg x kds) (hg : Gl X x) (hb : DE X c b fb) (hd : (x == ("__debug__" : Str)) = false := by decide) (m : M1 X (.Name x p) "get" apos b pos := by exact ⟨rfl, rfl, rfl, rfl⟩) : DE X c (.Call (.Attribute (.Name x p) "get" apos) [b] [] pos) (fb.bind (gKg kds)) := by
  obtain ⟨ad, kvs, hm, Dd, k1, t⟩ := h.ex
  refine PEw (pe_kget Dd hg hm hd hb m) fun σ H Q ⟨F, ρ, rr, h⟩ => ?_
  refine ⟨F, ρ, rr, (Pst.bind h).mono (.refl _) fun y H1 ⟨F1, ρ1, d, r1, l1, t1, h1⟩ => ?_⟩
  unfold gKg at h1
  cases ek : d.key with
  | none => rw [ek] at h1; exact False.elim h1
  | some k =>
    rw [ek] at h1
    have tt := t F1
    rw [fx.k, fx.mg] at tt
    exact ⟨k, t1.key ek, h1.ret r1 (val_getD k1 tt .non)⟩
end
end DL

set_option Elab.async false
set_option linter.all false
set_option maxRecDepth 100000
set_option maxHeartbeats 4000000
/-! DM4: dict comprehensions. -/
namespace DL
open PySem PySem.Spec PyProof.Rows L2
section
variable {c : Fc} {F H : Hp} {σ : L2.St} {ρ : Sls}
/-- a dict that grows beside the slots: it stands at A, nothing knows it -/
structure SideK (c : Fc) (F H : Hp) (σ : L2.St) (ρ : Sls) (A : Addr) (acc : List (Key × D)) : Prop where
  f : F A = none
  g : c.G A = none
  no : ∀ (i : Nat) (d : D), ρ[i]? = some (.ow d) → σ[i]? ≠ some (some (.ref A))
  at_ : ∃ xs, H A = some (.dK xs) ∧ xs.map (·.1) = acc.map (·.1) ∧ c.Dts F (xs.map (·.2)) (acc.map (·.2))
/-- behind a turn's block, the list one item longer or as it was -/
theorem R.unblkK {vs : List Nat} {F4 H4 : Hp} {σ4 : L2.St} {ρ4 : Sls} {A : Addr} {acc : List (Key × D)} {ws : List (Key × V)} {ds : List (Key × D)} (r : R c F H σ ρ) (S : SideK c F H σ ρ A acc) (r4 : R (c.blk F H) F4 H4 σ4 ρ4) (hσ : ∀ j, j ∉ vs → σ4[j]? = σ[j]?) (h0 : 0 ∉ vs) (hl : σ4.length = σ.length) (kk : ws.map (·.1) = ds.map (·.1)) (t : c.Dts F4 (ws.map (·.2)) (ds.map (·.2))) :
    Le F F4 ∧ (∃ xs, H4 A = some (.dK xs) ∧ xs.map (·.1) = acc.map (·.1) ∧ c.Dts F4 (xs.map (·.2)) (acc.map (·.2))) ∧ R c F4 (upd H4 A (.dK ws)) σ (outBlk ρ ρ4) ∧ SideK c F4 (upd H4 A (.dK ws)) σ (outBlk ρ ρ4) A ds := by
  obtain ⟨xs, hA, kA, tA⟩ := S.at_
  have keepF : ∀ a, H a ≠ none → F4 a = F a := fun a e => r4.frz a e
  have l : Le F F4 := fun a o e => by rw [keepF a (by rw [r.sub a o e]; exact fun z => by cases z)]; exact e
  have nB : c.B ≠ some A := fun z => r.bor A z S.g
  have fA : F4 A = none := by rw [keepF A (by rw [hA]; exact fun z => by cases z)]; exact S.f
  have hA4 : H4 A = some (.dK xs) := r4.ent A _ (noT_of r.tab hA fun ps z => by cases z) hA nB
  have hlen : ρ4.length = ρ.length := by rw [← r4.len, ← r.len]; exact hl
  have key : ∀ {i : Nat} {d : D}, (outBlk ρ ρ4)[i]? = some (.ow d) → ρ[i]? = some (.ow d) := fun {i d} e => by
    unfold outBlk at e
    rw [List.getElem?_zipWith] at e
    cases hs : ρ[i]? with
    | none => rw [hs] at e; cases e
    | some s =>
      rw [hs] at e
      cases hs4 : ρ4[i]? with
      | none => rw [hs4] at e; cases e
      | some s4 =>
        rw [hs4] at e
        cases s with
        | bo t => cases s4 <;> cases e
        | un => cases e
        | im _ => cases e
        | ow d => cases e; rfl
  refine ⟨l, ⟨xs, hA4, kA, tA.le l⟩, ⟨fun a o e => ?_, fun a o nt e n => ?_, ?_, fun q hq => ?_, fun a e z => ?_, fun a e => ?_, r.bor, ?_, fun i => ?_, fun i d e => ?_, fun i j p d d' e1 e2 e3 e4 => ?_⟩, ⟨fA, S.g, fun i d e => S.no i d (key e), ws, upd_same, kk, t⟩⟩
  · rw [upd_ne (fun z => by rw [z, fA] at e; cases e)]; exact r4.sub a o e
  · rw [upd_ne (fun z => by rw [z, S.g] at e; cases e)]; exact r4.ent a o nt (r.ent a o nt e n) n
  · intro q hq
    obtain ⟨ps, k1, k2, k3⟩ := r4.tab q hq
    have nA : q.1 ≠ A := fun z => by rw [z, hA4] at k1; cases k1
    refine ⟨ps, by rw [upd_ne nA]; exact k1, k2, fun pos cv hc => ?_⟩
    obtain ⟨c', e1, e2⟩ := k3 pos cv hc
    refine ⟨c', e1, ?_⟩
    rw [upd_ne (fun z => by rw [z, hA4] at e2; exact codeO_ext (o := .dK xs) (fun φ z => by cases z) (Option.some.inj e2))]; exact e2
  · exact r4.ft q hq
  · have na : a ≠ A := fun q => e (by rw [q]; exact S.g)
    rw [upd_ne na] at z
    exact r4.dom a (r.dom a e) z
  · rw [keepF a (r.dom a e)]; exact r.frz a e
  · unfold outBlk; rw [List.length_zipWith, hlen, Nat.min_self]; exact r.len
  · unfold outBlk
    rw [List.getElem?_zipWith]
    have x := r.sl i
    cases hs : ρ[i]? with
    | none => exact True.intro
    | some s =>
      rw [hs] at x
      cases hs4 : ρ4[i]? with
      | none => exact True.intro
      | some s4 =>
        cases s with
        | un => exact True.intro
        | im d => obtain ⟨v, e1, e2⟩ := x; exact ⟨v, e1, e2.le l⟩
        | ow d =>
          obtain ⟨p, e1, e2, e3, e4⟩ := x
          obtain ⟨o, eo⟩ := e4.there
          have np : p ≠ A := fun z => S.no i d hs (by rw [e1, z])
          have nb : c.B ≠ some p := fun z => r.bor p z e3
          refine ⟨p, e1, by rw [keepF p (by rw [eo]; exact fun z => by cases z)]; exact e2, e3, e4.le l fun u q => ?_⟩
          rw [upd_ne np]
          exact r4.ent p u (e4.noT r.tab) q nb
        | bo d =>
          cases s4 with
          | bo t4 =>
            obtain ⟨p, e1, e2, e3, e4⟩ := r4.sl i |> fun y => by rw [hs4] at y; exact y
            have i0 : i ∉ vs := by rw [r.one i d hs]; exact h0
            rw [hσ i i0] at e1
            have np : p ≠ A := fun z => nB (by rw [← z]; exact e3)
            exact ⟨p, e1, e2, e3, e4.le (.refl _) fun u q => by rw [upd_ne np]; exact q⟩
          | un => exact True.intro
          | im _ => exact True.intro
          | ow _ => exact True.intro
  · unfold outBlk at e
    rw [List.getElem?_zipWith] at e
    cases hs : ρ[i]? with
    | none => rw [hs] at e; cases e
    | some s =>
      rw [hs] at e
      cases hs4 : ρ4[i]? with
      | none => rw [hs4] at e; cases e
      | some s4 =>
        rw [hs4] at e
        cases s with
        | bo t => exact r.one i t hs
        | un => cases e
        | im _ => cases e
        | ow _ => cases e
  · exact r.own i j p d d' (key e1) (key e2) e3 e4
/-- what stands beside the slots becomes a datum -/
theorem SideK.dt {A : Addr} {acc : List (Key × D)} (r : R c F H σ ρ) (S : SideK c F H σ ρ A acc) : ∃ kvs, H A = some (.dK kvs) ∧ ∀ od, Le F (upd F A (.frz od (.dK kvs))) ∧ R c (upd F A (.frz od (.dK kvs))) (upd H A (.frz od (.dK kvs))) σ ρ ∧ c.Dt (upd F A (.frz od (.dK kvs))) (.ref A) (.dct acc) := by
  obtain ⟨xs, hA, kA, tA⟩ := S.at_
  refine ⟨xs, hA, fun od => ?_⟩
  have l : Le F (upd F A (.frz od (.dK xs))) := fun a u q => by rw [upd_ne (fun z => by rw [z, S.f] at q; cases q)]; exact q
  exact ⟨l, r.lockAt S.f S.g hA fun j d' h1 h2 => S.no j d' h1 h2, .dct upd_same kA (tA.le l)⟩
/-- {k: v for tg in .. if tt}: acc what is made so far -/
def M.dcL (vs : List Nat) (g : Tg) (tt : M Bool) (fk fv : M D) : List D → List (Key × D) → M (List (Key × D))
  | [], acc => M.ret acc
  | d :: ds, acc => fun ρ => match g d (inBlk ρ vs) with
    | none => .no
    | some ρ1 => match tt ρ1 with
      | .ok true ρ2 => match fk ρ2 with
        | .ok k ρ3 => match fv ρ3 with
          | .ok e ρ4 => match k.key with
            | some kk => if acc.length < 16777216 then M.dcL vs g tt fk fv ds (putD acc kk e) (outBlk ρ ρ4) else .no
            | none => .no
          | _ => .no
        | _ => .no
      | .ok false ρ2 => M.dcL vs g tt fk fv ds acc (outBlk ρ ρ2)
      | _ => .no
def M.bind' {α β : Type} (m : M α) (k : α → M β) : M β := fun ρ => match m ρ with
  | .ok a ρ' => k a ρ'
  | .er c fs ρ' => .er c fs ρ'
  | .no => .no
def M.dc (vs : List Nat) (g : Tg) (tt : M Bool) (fk fv : M D) (ds : List D) : M D := (M.dcL vs g tt fk fv ds []).bind' fun es => M.ret (.dct es)
/-- the reading of a comprehension, from the iterator on -/
theorem dc_read {vs ix : List Nat} {g : Tg} {tt : M Bool} {fk fv : M D} {J : It} {ds : List D} {Q : VK} {F1 H1 : Hp} {ρ1 : Sls} {tg : TG} {tT : TT} {tk tv : TE} (h0 : 0 ∉ vs) (hix : ∀ j ∈ ix, j ∈ vs)
    (htg : ∀ c' v σ H Q, c'.K = c.K → c'.mg = c.mg → c'.T = c.T → c'.W = (fun _ _ _ _ => False) → tTg c' ix g v σ H Q → tg v σ H Q) (htt : ∀ c' σ H Q, c'.K = c.K → c'.mg = c.mg → c'.T = c.T → c'.W = (fun _ _ _ _ => False) → tTe c' tt σ H Q → tT σ H Q)
    (htk : ∀ c' σ H Q, c'.K = c.K → c'.mg = c.mg → c'.T = c.T → c'.W = (fun _ _ _ _ => False) → tE c' fk σ H Q → tk σ H Q)
    (htv : ∀ c' σ H Q, c'.K = c.K → c'.mg = c.mg → c'.T = c.T → c'.W = (fun _ _ _ _ => False) → tE c' fv σ H Q → tv σ H Q)
    (r1 : R c F1 H1 σ ρ1) (it : ItD c F1 J ds) (h1 : Pst c σ F1 (M.dc vs g tt fk fv ds ρ1) Q) : ∀ A, H1 A = none → ∃ W : Nat → Nat → Hp → Prop, (∃ m, W 0 m (upd H1 A (.dK []))) ∧ ∀ i m H, W i m H →
      (J.stop i H ∧ ghK Q (.ref A) H) ∨ (J.go i H ∧ ∃ Nx : Hp → Prop, (∀ H', Nx H' → ∃ m', m' < m ∧ W (i + 1) m' H') ∧ ∀ x H', J.yld i H x H' → tg x (wipe σ vs) H' fun σ2 H2 => wipe σ2 vs = wipe σ vs ∧ tT σ2 H2 fun b H3 =>
        if b = true then tk σ2 H3 fun y H4 => tv σ2 H4 fun z H5 => ∃ kvs k, y = kV k ∧ H5 A = some (.dK kvs) ∧ kvs.length < sizeLine ∧ Nx (upd H5 A (.dK (putK kvs k z))) else Nx H3) := by
  intro A hA
  have h0' : Pst c σ F1 (((M.dcL vs g tt fk fv (ds.drop 0) []).bind' fun es => M.ret (.dct es)) ρ1) Q := h1
  refine ⟨fun i m H => m = ds.length - i ∧ i ≤ ds.length ∧ ∃ F ρ acc, R c F H σ ρ ∧ Le F1 F ∧ SideK c F H σ ρ A acc ∧ Pst c σ F (((M.dcL vs g tt fk fv (ds.drop i) acc).bind' fun es => M.ret (.dct es)) ρ) Q, ⟨ds.length, by simp, Nat.zero_le _, F1, ρ1, [], ?_, .refl _, ?_, h0'⟩, ?_⟩
  · exact r1.ext (Ext.newO r1.sub hA)
  · exact ⟨r1.fnone hA, r1.gnone hA, r1.nu hA, [], upd_same, rfl, .nil⟩
  rintro i m H ⟨rfl, hi, F2, ρ2, acc, r2, l2, S, h2⟩
  by_cases z : i < ds.length
  · obtain ⟨hgo, hy⟩ := it.go i ds[i] F2 H l2 r2.sub (List.getElem?_eq_getElem z)
    refine .inr ⟨hgo, fun H' => ∃ F ρ acc, R c F H' σ ρ ∧ Le F1 F ∧ SideK c F H' σ ρ A acc ∧ Pst c σ F (((M.dcL vs g tt fk fv (ds.drop (i + 1)) acc).bind' fun es => M.ret (.dct es)) ρ) Q, fun H' p => ⟨ds.length - (i + 1), by omega, rfl, z, p⟩, fun x H' y => ?_⟩
    obtain ⟨F3, ex, dt⟩ := hy x H' y
    have l3 := ex.le r2.sub
    have r3 := r2.ext ex
    have S3 : SideK c F3 H' σ ρ2 A acc := by
      obtain ⟨xs, a1, ak, a2⟩ := S.at_
      exact ⟨by rw [ex.old A (by rw [a1]; exact fun z => by cases z)]; exact S.f, S.g, S.no, xs, ex.h _ _ (noT_of r2.tab a1 fun ps z => by cases z) a1, ak, a2.le l3⟩
    rw [List.drop_eq_getElem_cons z] at h2
    unfold M.bind' M.dcL at h2
    have rb : R (c.blk F3 H') F3 H' (wipe σ vs) (inBlk ρ2 vs) := r3.blk h0
    cases e1 : g ds[i] (inBlk ρ2 vs) with
    | none => rw [e1] at h2; exact False.elim h2
    | some ρ3 =>
      rw [e1] at h2
      dsimp only at h2
      refine htg (c.blk F3 H') _ _ _ _ rfl rfl rfl rfl ⟨F3, inBlk ρ2 vs, ds[i], ρ3, rb, dt, e1, fun σ2 r' k1 k2 => ?_⟩
      have kσ : ∀ j, j ∉ vs → σ2[j]? = (wipe σ vs)[j]? := fun j hj => k1 j fun q => hj (hix j q)
      refine ⟨wipe_eq kσ k2, htt (c.blk F3 H') _ _ _ rfl rfl rfl rfl ⟨F3, ρ3, r', ?_⟩⟩
      have kσ' : ∀ j, j ∉ vs → σ2[j]? = σ[j]? := fun j hj => by rw [kσ j hj, L2.wipe_out hj]
      have kl : σ2.length = σ.length := by rw [k2, wipe_length]
      cases e2 : tt ρ3 with
      | no => rw [e2] at h2; exact False.elim h2
      | er _ _ _ => rw [e2] at h2; exact False.elim h2
      | ok b ρ4 =>
        rw [e2] at h2
        intro F4 H4 r4 l4
        cases b with
        | false =>
          dsimp only at h2
          refine iteF ?_
          obtain ⟨xs, a1, ak, a2⟩ := S3.at_
          have back := r3.unblkK S3 r4 kσ' h0 kl (ws := xs) (ds := acc) ak (a2.le l4)
          obtain ⟨b1, ⟨xs', b2, bk, b3⟩, b4, b5⟩ := back
          have nB : c.B ≠ some A := fun q => r2.bor A q S.g
          have e4 : H4 A = some (.dK xs) := r4.ent A _ (noT_of r3.tab a1 fun ps z => by cases z) a1 nB
          have e5 : upd H4 A (.dK xs) = H4 := by
            funext b
            by_cases q : b = A
            · rw [q, upd_same, e4]
            · rw [upd_ne q]
          rw [e5] at b4 b5
          exact ⟨F4, outBlk ρ2 ρ4, acc, b4, l2.trans (l3.trans l4), b5, Pst.mono h2 (l3.trans l4) fun _ _ q => q⟩
        | true =>
          dsimp only at h2
          refine iteT (htk (c.blk F3 H') _ _ _ rfl rfl rfl rfl ⟨F4, ρ4, r4, ?_⟩)
          cases e3 : fk ρ4 with
          | no => rw [e3] at h2; exact False.elim h2
          | er _ _ _ => rw [e3] at h2; exact False.elim h2
          | ok kd ρ5 =>
            rw [e3] at h2
            dsimp only at h2
            intro y F5 H5 r5 l5 t5
            refine htv (c.blk F3 H') _ _ _ rfl rfl rfl rfl ⟨F5, ρ5, r5, ?_⟩
            cases e4 : fv ρ5 with
            | no => rw [e4] at h2; exact False.elim h2
            | er _ _ _ => rw [e4] at h2; exact False.elim h2
            | ok e ρ6 =>
              rw [e4] at h2
              dsimp only at h2
              intro v F6 H6 r6 l6 t6
              cases ek : kd.key with
              | none => rw [ek] at h2; exact False.elim h2
              | some kk =>
                rw [ek] at h2
                dsimp only at h2
                by_cases hz : acc.length < 16777216
                · rw [if_pos hz] at h2
                  obtain ⟨b1, ⟨xs', b2, bk, b3⟩, _, _⟩ := r3.unblkK S3 r6 kσ' h0 kl (ws := []) (ds := []) rfl .nil
                  obtain ⟨p1, p2⟩ := put_of (k := kk) t6 bk b3
                  obtain ⟨_, _, b4, b5⟩ := r3.unblkK S3 r6 kσ' h0 kl (ws := putK xs' kk v) (ds := putD acc kk e) p1 p2
                  have hl : xs'.length = acc.length := by have := congrArg List.length bk; simpa using this
                  exact ⟨xs', kk, t5.key ek, b2, by rw [line_eq, hl]; exact hz, F6, outBlk ρ2 ρ6, putD acc kk e, b4, l2.trans (l3.trans (l4.trans (l5.trans l6))), b5, Pst.mono h2 (l3.trans (l4.trans (l5.trans l6))) fun _ _ q => q⟩
                · rw [if_neg hz] at h2; exact False.elim h2
  · have e : i = ds.length := by omega
    subst e
    refine .inl ⟨it.stop _ F2 H l2 r2.sub (Nat.le_refl _), ?_⟩
    rw [List.drop_length] at h2
    obtain ⟨kvs, hk, q⟩ := S.dt r2
    exact .inr ⟨A, _, hk, True.intro, fun od => h2 (.ref A) _ _ (q od).2.1 (q od).1 (q od).2.2⟩
end
section
variable {X : Cx} {c : Fc} {F H : Hp} {σ : L2.St} {ρ : Sls} {pos p : Pos}
theorem de_dc {tg iter kx vx : Expr} {ifs : List Expr} {scope : Scope} {own : List (Str × Nat)} {fi : M (List D)} {ix : List Nat} {g : Tg} {tt : M Bool} {fk fv : M D} (fx : Fit X c) (hc : X.calm = true) (hN : X.N.Nodup) (hi : DI X c tg iter fi) (ok : BlkOk X.N X.env.scope scope own)
    (h0 : 0 ∉ own.map (·.2)) (hix : ∀ j ∈ ix, j ∈ own.map (·.2))
    (hg : ∀ (s : Shared) (H : Hp) (C : Addr) (cl : List (Str × Addr)) (fp : List Addr) (c' : Fc), FitB (X.blk s H scope (compEnvC scope cl C X.env) fp) c c' → DG (X.blk s H scope (compEnvC scope cl C X.env) fp) c' tg ix g)
    (ht : ∀ (s : Shared) (H : Hp) (C : Addr) (cl : List (Str × Addr)) (fp : List Addr) (c' : Fc), FitB (X.blk s H scope (compEnvC scope cl C X.env) fp) c c' → DTs (X.blk s H scope (compEnvC scope cl C X.env) fp) c' ifs tt)
    (hk : ∀ (s : Shared) (H : Hp) (C : Addr) (cl : List (Str × Addr)) (fp : List Addr) (c' : Fc), FitB (X.blk s H scope (compEnvC scope cl C X.env) fp) c c' → DE (X.blk s H scope (compEnvC scope cl C X.env) fp) c' kx fk)
    (he : ∀ (s : Shared) (H : Hp) (C : Addr) (cl : List (Str × Addr)) (fp : List Addr) (c' : Fc), FitB (X.blk s H scope (compEnvC scope cl C X.env) fp) c c' → DE (X.blk s H scope (compEnvC scope cl C X.env) fp) c' vx fv) (hs : ∀ x, foldedSetIterable iter X.env x = pure x := by intro _; rfl) :
    DE X c (.DictComp kx vx [⟨tg, iter, ifs, 0⟩] scope pos) (fi.bind (M.dc (own.map (·.2)) g tt fk fv)) := by
  have fb : ∀ (s : Shared) (H : Hp) (C : Addr) (cl : List (Str × Addr)) (fp : List Addr) (c' : Fc), c'.K = c.K → c'.mg = c.mg → c'.T = c.T → c'.W = (fun _ _ _ _ => False) → FitB (X.blk s H scope (compEnvC scope cl C X.env) fp) c c' := fun s H C cl fp c' h1 h2 h4 h3 => ⟨fx.k.trans h1.symm, fx.mg.trans h2.symm, h4, h3⟩
  refine PEw (pe_gh (pe_dc (g := xTg c ix g) (tt := xTt c tt) (tk := xTe c fk) (tv := xTe c fv) hc hN hi ok
    (fun s H C cl fp => ⟨fun pins s' σ H v u Q I r ⟨c', h1, h2, h4, h3, q⟩ => (hg s _ C cl fp c' (fb _ _ _ _ _ _ h1 h2 h4 h3)).run pins s' σ H v u Q I r q⟩)
    (fun s H C cl fp => ⟨fun pins s' σ H Q I ⟨c', h1, h2, h4, h3, q⟩ => (ht s _ C cl fp c' (fb _ _ _ _ _ _ h1 h2 h4 h3)).pts.run pins s' σ H Q I q⟩)
    (fun s H C cl fp => ⟨fun pins s' σ H Q I ⟨c', h1, h2, h4, h3, q⟩ => (hk s _ C cl fp c' (fb _ _ _ _ _ _ h1 h2 h4 h3)).run pins s' σ H Q I q⟩)
    (fun s H C cl fp => ⟨fun pins s' σ H Q I ⟨c', h1, h2, h4, h3, q⟩ => (he s _ C cl fp c' (fb _ _ _ _ _ _ h1 h2 h4 h3)).run pins s' σ H Q I q⟩) hs)) fun σ H Q ⟨F, ρ, rr, h⟩ => ?_
  have h' : PIt c σ F (fi ρ) fun J H1 => ∃ F1 ρ1 ds, R c F1 H1 σ ρ1 ∧ Le F F1 ∧ ItD c F1 J ds ∧ Pst c σ F1 (M.dc (own.map (·.2)) g tt fk fv ds ρ1) Q := by
    unfold M.bind at h
    cases e : fi ρ with
    | ok ds ρ' => rw [e] at h; exact fun J F' H' r l i => ⟨F', ρ', ds, r, l, i, Pst.mono h l fun _ _ q => q⟩
    | er k fs ρ' => rw [e] at h; exact h
    | no => rw [e] at h; exact h
  exact ⟨F, ρ, rr, h'.mono fun J H1 ⟨F1, ρ1, ds, r1, l1, it, h1⟩ => dc_read (tg := xTg c ix g) (tT := xTt c tt) (tk := xTe c fk) (tv := xTe c fv) h0 hix (fun c' v σ H Q a b k d q => ⟨c', a, b, k, d, q⟩) (fun c' σ H Q a b k d q => ⟨c', a, b, k, d, q⟩) (fun c' σ H Q a b k d q => ⟨c', a, b, k, d, q⟩) (fun c' σ H Q a b k d q => ⟨c', a, b, k, d, q⟩) r1 it h1⟩
end
end DL

set_option Elab.async false
set_option linter.all false
set_option maxRecDepth 100000
set_option maxHeartbeats 4000000
/-! DM5: for x in reversed(a text). -/
namespace DL
open PySem PySem.Spec PyProof.Rows L2
theorem norev_str : typeLookup (.type "str") "__reversed__" = pure none := by rw [typeLookup_type, builtinLookup_eq_fast]; kernel_rfl
theorem get_strT : typeLookup (.type "str") "__getitem__" = pure (some (.builtin "str.__getitem__")) := by rw [typeLookup_type, builtinLookup_eq_fast]; kernel_rfl
theorem sub_str_dict' : isSubtype (.type "str") (.type "dict") = pure false := by rw [isSubtype_type]; kernel_rfl
/-- reversed(a text), the next place i -/
def rsObj (z : Str) (t : Tok) (i : Int) : Obj := { cls := .type "reversed", data := .fields #[.str z t, rawInt i] }
def IsRs (h : Heap) (a : Addr) (z : Str) (t : Tok) (i : Int) : Prop := ∃ o, h.get? a = some o ∧ o.cls = .type "reversed" ∧ o.data = .fields #[.str z t, rawInt i]
theorem IsRs.at {h h' : Heap} {a : Addr} {z : Str} {t : Tok} {i : Int} (x : IsRs h a z t i) (e : ∀ o, h.get? a = some o → h'.get? a = some o) : IsRs h' a z t i := let ⟨o, ho, r⟩ := x; ⟨o, e _ ho, r⟩
section
variable {prog : Program} {w : World} {A : Around} {E : Value → Shared → Prop} {s : Shared} {z : Str} {t : Tok}
theorem IsRs.typeIs {a : Addr} {i : Int} (x : IsRs s.heap a z t i) : s.TypeIs (.ref a) "reversed" := let ⟨o, ho, hc, _⟩ := x; ⟨o, ho, hc⟩
theorem code_reversed_str {Q₁ : Value → Shared → Prop} (hfit : ¬ (z.length : Int) ≥ 2 ^ 63)
    (h : Q₁ (.ref s.heap.objs.size) { s with heap := s.heap.push (rsObj z t ((z.length : Int) - 1)), toks := s.toks + 1 + 1 }) :
    codeAny (model prog w) A (.call (.builtin "reversed.__new__") ⟨[.type "reversed", .str z t], []⟩) (wants Q₁ E) s := by
  have hT : s.TypeIs (.str z t) "str" := typeIs_str s z t
  refine codeAny_of_tree ?_
  show wpAny _ A.in1 (do checkBuiltinCall "reversed.__new__" ⟨[.type "reversed", .str z t], []⟩; again (.builtin "reversed.__new__" ⟨[.type "reversed", .str z t], []⟩)) _ _ s
  refine wpAny_bind (wpAny_of_eq (F.newCall_reversed_1 _) (wpAny_pure ⟨plainId_quiet F.plain_reversed_new _, codeAny_builtin F.entry_reversed_new ?_⟩))
  rw [Around.under_plainId F.plain_reversed_new _]
  unfold Builtin.«reversed.__new__»
  refine wpAny_bind (wpAny_of_eq (newClass_reversed _) ?_)
  try dsimp only
  refine wpAny_bind (wpAny_of_eq (a := ()) (by first | rfl | kernel_rfl) ?_)
  try dsimp only
  refine wpAny_bind (wpAny_of_eq (a := ()) (by first | rfl | kernel_rfl) ?_)
  try dsimp only
  refine wpAny_bind (wpAny_specialOf hT norev_str ?_)
  try dsimp only
  refine wpAny_bind ?_
  wp_delta
  refine wpAny_bind (wpAny_isInstance (T := "str") (U := "dict") (b := false) hT sub_str_dict' ?_)
  try dsimp only
  try rw [if_neg Bool.false_ne_true]
  try dsimp only
  refine wpAny_bind (wpAny_specialOf hT get_strT ?_)
  try dsimp only
  try rw [if_pos (by decide +kernel)]
  refine wpAny_pure ?_
  try dsimp only
  try rw [if_neg (by decide)]
  try dsimp only
  refine wpAny_bind (P.len_str hfit ?_)
  refine wpAny_bind (wpAny_of_eq (a := some ((z.length : Nat) : Int)) rfl ?_)
  try dsimp only
  refine wpAny_bind ?_
  show wpAny _ _ (newObj (.type "reversed") (.fields #[.str z t, rawInt ((z.length : Int) - 1)])) _ _ _
  refine wpAny_newObj_type ?_
  exact wpAny_pure h
theorem call_reversed_str {Q : Value → Shared → Prop} (hfit : ¬ (z.length : Int) ≥ 2 ^ 63)
    (h : Q (.ref s.heap.objs.size) { s with heap := s.heap.push (rsObj z t ((z.length : Int) - 1)), toks := s.toks + 1 + 1 }) : wpAny (model prog w) A (call (.type "reversed") [.str z t]) Q E s := by
  refine callType_codes (Q₁ := fun obj s₁ => s₁.TypeIs obj "reversed" ∧ Q obj s₁) RT.called_rt (F.typeCall_reversed_1 _) F.entry_object_init
    (code_reversed_str (A := A.in1) hfit ⟨⟨_, Heap.get?_push_size _ rfl, rfl⟩, h⟩) fun obj s₁ h₁ => ?_
  exact ⟨h₁.1, F.args_object_init_2 obj _, object_init_meets RT.called_rt.init.lookup RT.called_rt.made (by decide) prog w A.in1 _ s₁ ⟨h₁.1, rfl, h₁.2⟩⟩
theorem next_rs_item {it : Addr} {i c : Nat} {Q : Option Value → Shared → Prop} (hit : IsRs s.heap it z t (i : Int)) (hx : z.cps[i]? = some c) (hsz : z.length ≤ sizeLine)
    (hQ : ∀ h', IsRs h' it z t ((i : Int) - 1) → Heap.SameBut it s.heap h' → Q (some (.str ⟨#[c]⟩ (s.toks + 1))) { s with heap := h', toks := s.toks + 1 + 1 }) : wpAny (model prog w) A (pyNext (.ref it)) Q E s := by
  obtain ⟨o, ho, hc, hd⟩ := id hit
  have hi : i < z.length := (Array.getElem?_eq_some_iff.mp hx).1
  have hT : s.TypeIs (.str z t) "str" := typeIs_str s z t
  rw [sizeLine_eq] at hsz
  unfold pyNext
  refine wpAny_bind (wpAny_attempt (wpAny_callSpecial?_slot (name := Str.ofString "__next__") hit.typeIs RT.slot_rt_next
    (wpAny_call_entry RT.slot_rt_next hit.typeIs RT.entry_rt_next ?_ (RT.args_rt_next _))))
  unfold Builtin.«reversed.__next__»
  refine wpAny_bind (wpAny_of_eq (a := (Value.ref it, [])) rfl ?_)
  try dsimp only
  refine wpAny_bind (wpAny_field ho hd (x := .str z t) rfl ?_)
  try dsimp only
  refine wpAny_bind (wpAny_field ho hd (x := rawInt (i : Int)) rfl ?_)
  show wpAny _ _ (if (i : Int) < 0 then _ else _) _ _ s
  rw [if_neg (by omega)]
  try dsimp only
  refine wpAny_bind (wpAny_specialOf hT get_strT ?_)
  try dsimp only
  try rw [if_neg (by decide)]
  try dsimp only
  refine wpAny_bind (wpAny_mkInt ?_)
  refine wpAny_bind (wpAny_attempt ?_)
  have fin : seqIndex? (i : Int) z.length = some i := seqIndex_of (by omega) (by omega)
  refine PyProof.Rows.getItem_str (s := { s with toks := s.toks + 1 }) (c := c) (by
    have e1 : decide ((i : Int) < -(2 ^ 63 : Int)) = false := decide_eq_false (by omega)
    have e2 : decide ((i : Int) ≥ 2 ^ 63) = false := decide_eq_false (by omega)
    rw [e1, e2, Bool.or_false]) (by rw [fin]; exact hx) ?_
  try dsimp only
  refine wpAny_bind (wpAny_field (s := { s with toks := s.toks + 1 + 1 }) ho hd (x := rawInt (i : Int)) rfl ?_)
  try dsimp only
  refine wpAny_bind (wpAny_setField (s := { s with toks := s.toks + 1 + 1 }) ho hd (by simp) ?_)
  first
  | refine wpAny_pure ⟨_, rfl, wpAny_pure (hQ _ ?_ (Heap.SameBut.update ..))⟩
  | refine wpAny_bind (wpAny_pure (wpAny_pure ⟨_, rfl, wpAny_pure (hQ _ ?_ (Heap.SameBut.update ..))⟩))
  exact ⟨_, Heap.get?_update_self _ ho (Obj.isFreed_of_fields (Obj.data_mapFields hd _)), (Obj.cls_mapFields ..).trans hc, by
    rw [Obj.data_mapFields hd]; simp⟩
theorem next_rs_end {it : Addr} {Q : Option Value → Shared → Prop} (hh : A.handled = none) (hit : IsRs s.heap it z t (-1))
    (hQ : ∀ h', Heap.ExtBut it s.heap h' → Q none { s with heap := h' }) : wpAny (model prog w) A (pyNext (.ref it)) Q E s := by
  obtain ⟨o, ho, hc, hd⟩ := id hit
  unfold pyNext
  refine wpAny_bind (wpAny_attempt (wpAny_callSpecial?_slot (name := Str.ofString "__next__") hit.typeIs RT.slot_rt_next
    (wpAny_call_entry RT.slot_rt_next hit.typeIs RT.entry_rt_next ?_ (RT.args_rt_next _))))
  unfold Builtin.«reversed.__next__»
  refine wpAny_bind (wpAny_of_eq (a := (Value.ref it, [])) rfl ?_)
  try dsimp only
  refine wpAny_bind (wpAny_field ho hd (x := .str z t) rfl ?_)
  try dsimp only
  refine wpAny_bind (wpAny_field ho hd (x := rawInt (-1)) rfl ?_)
  show wpAny _ _ (if (-1 : Int) < 0 then _ else _) _ _ s
  rw [if_pos (by decide)]
  try dsimp only
  refine wpAny_bind (wpAny_rule ?_)
  refine wpAny_bind ?_
  wp_delta
  refine wpAny_bind (wpAny_setField ho hd (by simp) ?_)
  have ho2 := Heap.get?_update_self (Obj.mapFields (·.setIfInBounds 1 (rawInt (-1)))) ho (Obj.isFreed_of_fields (Obj.data_mapFields hd _))
  refine wpAny_setField (s := { s with heap := s.heap.update it (Obj.mapFields (·.setIfInBounds 1 (rawInt (-1)))) }) ho2 (Obj.data_mapFields hd _) (by simp) ?_
  try dsimp only
  first
  | show wpAny _ _ (newExc (.type "StopIteration") [] >>= _) _ _ _
  | (refine wpAny_bind ?_; show wpAny _ _ (newExc (.type "StopIteration") [] >>= _) _ _ _)
  | (refine wpAny_bind ?_; wp_delta; show wpAny _ _ (newExc (.type "StopIteration") [] >>= _) _ _ _)
  refine wpAny_bind ?_
  simp only [newExc, newTuple]
  refine wpAny_bind (wpAny_newObj_type ?_ (by size_fits))
  refine wpAny_bind (m := firstArgMember _ _) (wpAny_of_eq (a := Value.none) (by first | rfl | (simp only [firstArgMember]; rfl)) ?_)
  refine wpAny_newObj_type ?_ (by size_fits)
  simp only [raiseNew]
  refine wpAny_bind (wpAny_handled ?_)
  first | rw [show A.in1.handled = none from hh] | rw [hh]
  refine wpAny_bind (wpAny_pure (wpAny_throw ?_))
  refine wpAny_bind (wpAny_isInstance (T := "StopIteration") (b := true) ⟨_, Heap.get?_push_size _ rfl, rfl⟩ isSubtype_stop ?_)
  refine wpAny_pure (hQ _ ?_)
  refine ((?_ : Heap.ExtBut it s.heap _).push _).push _
  exact fun b ob hb e => (Heap.get?_update_other _ _ (Ne.symm hb)).trans ((Heap.get?_update_other _ _ (Ne.symm hb)).trans e)
theorem iter_rs {it : Addr} {i : Int} {Q : Value → Shared → Prop} (hit : IsRs s.heap it z t i) (h : Q (.ref it) s) : wpAny (model prog w) A (pyIter (.ref it)) Q E s := by
  refine wpAny_pyIter_slot hit.typeIs RT.slot_rt_iter (wpAny_call_entry RT.slot_rt_iter hit.typeIs RT.entry_rt_iter ?_ (RT.args_rt_iter _))
  show wpAny _ _ (ret (.ref it)) _ _ s
  exact wpAny_pure ⟨_, rfl, "reversed", _, hit.typeIs, RT.slot_rt_next.lookup, h⟩
end
/-- the signs of a text from its end -/
def ItRs (z : Str) : It :=
  ⟨fun i H => i < z.length, fun i H x H' => H' = H ∧ ∃ c, z.cps[z.length - 1 - i]? = some c ∧ x = .str ⟨#[c]⟩, fun i _ => z.length ≤ i⟩
theorem turn_rs {P : Program} {w : World} {K : PySem.W.Frag} {tg : Expr} (z : Str) (t : Tok) (it : Addr) (hz : z.length ≤ sizeLine) : Turn P w K tg (ItRs z) [it] it (fun i h => i ≤ z.length ∧ IsRs h it z t ((z.length : Int) - 1 - (i : Nat))) where
  mem := by simp
  obj := fun i h st b hb => by
    have e : b = it := by simpa using hb
    subst e
    obtain ⟨_, o, e, c, d⟩ := st
    exact ⟨o, e, fun v z => by rw [d] at z; cases z⟩
  keep := fun i h h' st k => ⟨st.1, st.2.at fun o e => k it (by simp) o e⟩
  item := by
    intro X hP hw hK hc i pins s σ H E I hf st hg
    subst hP hw hK
    have hin : i < z.length := hg
    obtain ⟨f0, f1, f2, f3, f4, f5⟩ := hf it (by simp)
    obtain ⟨_, hit⟩ := st
    have e1 : (z.length : Int) - 1 - ((i : Nat) : Int) = ((z.length - 1 - i : Nat) : Int) := by omega
    rw [e1] at hit
    have hlt : z.length - 1 - i < z.cps.size := by show z.length - 1 - i < z.length; omega
    have hx : z.cps[z.length - 1 - i]? = some (z.cps[z.length - 1 - i]'hlt) := Array.getElem?_eq_getElem hlt
    refine next_rs_item hit hx hz fun h' st' sb => ?_
    have e2 : ((z.length - 1 - i : Nat) : Int) - 1 = (z.length : Int) - 1 - ((i + 1 : Nat) : Int) := by omega
    rw [e2] at st'
    have I1 : Inv X pins σ H { s with heap := h', toks := s.toks + 1 + 1 } := I.turned (t' := s.toks + 1 + 1) (fun b o hb e => (sb.2 b hb).trans e) f0 f1 f3 f4 f5
    obtain ⟨o, e, c, d⟩ := id st'
    exact ⟨_, rfl, L2.go_of (s := { s with heap := h', toks := s.toks + 1 + 1 }) e c d (by decide) ⟨V.str ⟨#[z.cps[z.length - 1 - i]'hlt]⟩, H, I1, ⟨_, rfl⟩, ⟨rfl, _, hx, rfl⟩, ⟨hin, st'⟩, fun b hb => (hf b hb).1⟩⟩
  done := by
    intro X hP hw hK hc i pins s σ H E I hf st hg
    subst hP hw hK
    obtain ⟨f0, f1, f2, f3, f4, f5⟩ := hf it (by simp)
    obtain ⟨hin, hit⟩ := st
    have hge : z.length ≤ i := hg
    have e1 : (z.length : Int) - 1 - ((i : Nat) : Int) = -1 := by omega
    rw [e1] at hit
    exact next_rs_end (I.ok.hd hc) hit fun h' eb => ⟨rfl, I.turned (t' := s.toks) (fun b o hb e => eb b o hb e) f0 f1 f3 f4 f5⟩
  self := fun A i s Q E st h => iter_rs st.2 h
section
variable {X : Cx} {tg : Expr}
theorem pi_revS {e : Expr} {te : TE} {p pos : Pos} (hg : Gl X "reversed") (hm : X.mg "reversed" = none) (he : PE X e te) (hs : starEach [e] X.env = (false, eval e X.env) :: starEach [] X.env := by rfl) :
    PI X tg (.Call (.Name "reversed" p) [e] [] pos) fun σ H R => te σ H fun v H1 => ∃ z, v = .str z ∧ z.length ≤ sizeLine ∧ R (ItRs z) H1 := by
  refine ⟨fun pins s σ H R I h => ?_⟩
  refine Call_ (ld_blt I hg hm PyProof.Rows.boot_reversed (PyProof.Rows.callWith_type1 (args_cons (thn (he.run pins s σ H _ I h) fun u s1 ⟨v, H1, I1, r1, q1⟩ => args_nil ?_) hs) hs rfl))
  obtain ⟨z, ev, hz, q⟩ := q1
  subst ev
  obtain ⟨t, rfl⟩ := (show ∃ t, u = Value.str z t from r1)
  have hn := line63
  refine call_reversed_str (by omega) (iter_rs (z := z) (t := t) (i := (z.length : Int) - 1) ⟨_, Heap.get?_push_size _ rfl, rfl, rfl⟩ ?_)
  refine pi_one (tk := s1.toks + 1 + 1) I1 _ (turn_rs z t _ hz) ⟨Nat.zero_le _, ?_⟩ q
  have e1 : (z.length : Int) - 1 - ((0 : Nat) : Int) = (z.length : Int) - 1 := by omega
  rw [e1]
  exact ⟨_, Heap.get?_push_size _ rfl, rfl, rfl⟩
end
section
variable {X : Cx} {c : Fc} {F H : Hp} {σ : L2.St} {ρ : Sls} {tg a b e : Expr} {fa fb fe : M D} {pos p : Pos}
def revSigns : D → M (List D)
  | .str z => if lineS z then M.ret (signs z).reverse else M.no
  | _ => M.no
theorem di_revS (fx : Fit X c) (hg : Gl X "reversed") (hm : X.mg "reversed" = none) (ha : DE X c a fa) (hs : starEach [a] X.env = (false, eval a X.env) :: starEach [] X.env := by rfl) : DI X c tg (.Call (.Name "reversed" p) [a] [] pos) (fa.bind revSigns) :=
  PIw (pi_revS hg hm ha hs) fun σ H Q ⟨F, ρ, rr, h⟩ => ⟨F, ρ, rr, (PIt.bind h).mono (.refl _) fun v H1 ⟨F1, ρ1, d, r1, l1, t1, h1⟩ => by
    cases t1 with
    | str z =>
      unfold revSigns at h1
      by_cases hz : lineS z = true
      · dsimp only at h1
        rw [if_pos hz] at h1
        refine ⟨z, rfl, lineS_of hz, h1 _ F1 H1 r1 (.refl _) ⟨?_, ?_⟩⟩
        · intro i F' H' l s hi
          have : (signs z).reverse.length = z.length := by simp [signs, Str.length]
          rw [this] at hi
          exact hi
        · intro i d F' H' l s hi
          have hl : (signs z).length = z.length := by simp [signs, Str.length]
          have hin : i < z.length := by
            have := (List.getElem?_eq_some_iff.mp hi).1
            rw [List.length_reverse, hl] at this; exact this
          refine ⟨hin, fun x H2 ⟨eH, cc, hc, ex⟩ => ?_⟩
          subst eH ex
          refine ⟨F', .refl s, ?_⟩
          have e2 : (signs z).reverse[i]? = some (.str ⟨#[cc]⟩) := by
            rw [List.getElem?_reverse (by rw [hl]; exact hin), hl]
            unfold signs
            rw [List.getElem?_map, Array.getElem?_toList, hc]
            rfl
          rw [e2] at hi
          cases hi
          exact .str _
      · dsimp only at h1
        rw [if_neg hz] at h1
        exact False.elim h1
    | _ => exact False.elim h1⟩
end
end DL

set_option Elab.async false
set_option linter.all false
set_option maxRecDepth 100000
set_option maxHeartbeats 4000000
/-! DM6: defs with *args. -/
namespace DL
open PySem PySem.Spec PyProof.Rows L2
/-- a promise of a def that takes n arguments or more -/
def spR (K : PySem.W.Frag) (mg : Str → Option Value) (T : List (Addr × Str)) (n : Nat) (f : List D → Res D) : Sp := fun vs H Q E =>
  ∃ F ds, (LamX.Tabs T H ∧ (∀ p ∈ T, F p.1 = none) ∧ Le F H) ∧ Dts K mg F vs ds ∧ (n ≤ ds.length ∧ ds.length ≤ n + 16777216) ∧ endD K mg T F H (f ds) Q E
/-- what is left over, in a tuple -/
def packD (n : Nat) (ds : List D) : List D := ds.take n ++ [.tup (ds.drop n)]
section
variable {P : Program} {w : World} {K : PySem.W.Frag} {mg : Str → Option Value} {base : Heap} {T : List (Addr × Str)}
theorem endD.ext {F H F1 H1 : Hp} {r : Res D} {Q : VK} {E : XK} (h : endD K mg T F H r Q E) (e : Ext T F H F1 H1) : endD K mg T F1 H1 r Q E := by
  cases r with
  | ok d => exact fun v F' H' x t => h v F' H' (e.trans x) t
  | er k fs => exact fun C dd F' H' fv m x => h C dd F' H' fv m (e.trans x)
  | no => exact h
theorem fnR_star {x qual pv : Str} {st : Stmt} {f : Addr} {oc : Value} {od an : Option Addr} {osl : Array (Option Value)} {kV doc pm cdv ct : Value} {N ps : List Str} {k : Nat} {g : M Out}
    (lk : K.lookup f = some ⟨oc, od, .func (PySem.W.fnOf x qual (defArgs st) (defBody st) (defScope st) .none kV doc pm an cdv ct), osl⟩) (hcd : PySem.W.codeIn K cdv qual = true) (S : FnScope N (ps ++ [pv]) (defScope st))
    (hb : ∀ us rest : List Value, us.length = ps.length → bindArgs (PySem.W.fnOf x qual (defArgs st) (defBody st) (defScope st) .none kV doc pm an cdv ct) ⟨us ++ rest, []⟩ = (newTuple rest >>= fun t => pure (ps.zip us ++ [(pv, t)])))
    (hbody : ∀ (cdv : Value) (A : Around) (outer : List Env) (s : Shared) (H : Hp) (E : XK) (c : Fc), c.K = K → c.mg = mg → c.T = T → Fit (cxOf (L2.CX P w) P w K mg base N qual (defScope st) f cdv A outer s H E) c → Room k (A.deeper (envOfC qual (defScope st) s.heap.objs.size f cdv)) →
      DSs (cxOf (L2.CX P w) P w K mg base N qual (defScope st) f cdv A outer s H E) c (defBody st) g) :
    FnR P w K mg base (L2.CX P w) (k + 1) f (spR K mg T ps.length fun ds => resD (g (slots N.length ((packD ps.length ds).map .im)))) := by
  refine FnR.imp (StX.fn_star (k := k) (ps := ps) (pv := pv) (sp := spD K mg T (ps.length + 1) fun ds => resD (g (slots N.length (ds.map .im)))) lk hcd S StX.cxUp hb ?_) ?_
  · intro A outer s H vs Q E hr ⟨F, ds, ⟨tb, ft, sub⟩, t, hl, he⟩
    refine ⟨_, hbody cdv A outer s H E ⟨K, mg, T, H, F, none, fun cls d _ H => E cls d H⟩ rfl rfl rfl ⟨rfl, rfl, takes_of rfl rfl rfl rfl, fun _ _ _ _ _ h => h⟩ hr, F, slots N.length (ds.map .im), ?_, ?_⟩
    · exact ⟨sub, fun a o _ e _ => e, tb, ft, fun a e => e, fun a _ => rfl, fun _ e => (by cases e), slots_len (by rw [t.length, List.length_map]) rfl, fun i => slots_get t H i, fun i d h1 => (slots_nb h1).elim, fun i j p d d' h1 _ _ _ => (slots_im h1).elim⟩
    · have he : endD K mg T F H (resD (g (slots N.length (ds.map .im)))) Q E := he
      generalize g (slots N.length (ds.map .im)) = r at he
      cases r with
      | ok o ρ' =>
        cases o with
        | nx => exact fun σ' F' H' r l => he .non F' H' ⟨fun a o n e => r.ent a o n e (by intro z; cases z), fun _ => r.tab, r.dom, fun a e => r.frz a e, r.sub⟩ .non
        | rt d => exact fun σ' v F' H' r l dt => he v F' H' ⟨fun a o n e => r.ent a o n e (by intro z; cases z), fun _ => r.tab, r.dom, fun a e => r.frz a e, r.sub⟩ dt
        | bk => exact he.elim
        | ct => exact he.elim
      | er kk fs ρ' => exact fun C dd σ' F' H' fv m r l e1 e2 e3 => he C dd F' H' fv m ⟨fun a o n e => r.ent a o n e (by intro z; cases z), fun _ => r.tab, r.dom, fun a e => r.frz a e, r.sub⟩ e1 e2 e3
      | no => exact he.elim
  · intro vs H Q E ⟨F, ds, ⟨tb, ft, sub⟩, t, ⟨hl, hz⟩, he⟩
    have hlen := t.length
    refine ⟨vs.take ps.length, vs.drop ps.length, (List.take_append_drop _ _).symm, by rw [List.length_take, hlen]; omega, by rw [List.length_drop, hlen, line_eq]; omega, fun p hp => ?_⟩
    have e1 : Ext T F H (upd F p (.tup (vs.drop ps.length))) (upd H p (.tup (vs.drop ps.length))) := .new sub hp
    refine ⟨upd F p (.tup (vs.drop ps.length)), packD ps.length ds, ⟨e1.tab tb, fun q hq => ?_, e1.sub⟩, ?_, ?_, he.ext e1⟩
    · obtain ⟨us, e2, _⟩ := tb q hq
      rw [upd_ne (fun z => by rw [z, hp] at e2; cases e2)]; exact ft q hq
    · have l := e1.le sub
      exact ((t.take _).le l).append (.cons (.tup (SqT.of upd_same) ((t.drop _).le l)) .nil)
    · unfold packD
      rw [List.length_append, List.length_take, List.length_singleton]; omega
end
/-- a def of the text with *args -/
structure CalR (P : Program) (w : World) (K : PySem.W.Frag) (mg : Str → Option Value) (base : Heap) (T : List (Addr × Str)) (x : Str) (k n : Nat) (fn : List D → Res D) : Prop where
  ex : ∃ f, mg x = some (.ref f) ∧ FnR P w K mg base (L2.CX P w) k f (spR K mg T n fn) ∧ PySem.W.keepIn K (.ref f) = true
def M.callR (n : Nat) (f : List D → Res D) (ds : List D) : M D := M.grd (n ≤ ds.length ∧ ds.length ≤ n + 16777216) (M.res (f ds))
section
variable {X : Cx} {c : Fc} {F H : Hp} {σ : L2.St} {ρ : Sls} {a : Expr} {es : List Expr} {fs : M (List D)} {pos p : Pos} {x : Str} {T : List (Addr × Str)} {j k n : Nat}
theorem pe_callR {CX : CXT} {f : Addr} {sp : Sp} {E : XK} {t : TA} (Fn : FnR X.prog X.w X.K X.mg X.base CX k f sp) (hr : Room k X.A) (hk : PySem.W.keepIn X.K (.ref f) = true) (hx : Passes CX X E) (hg : Gl X x) (hm : X.mg x = some (.ref f)) (ha : PA X (a :: es) t)
    (hdb : (x == ("__debug__" : Str)) = false) (he : starEach (a :: es) X.env = (false, eval a X.env) :: starEach es X.env) (hpl : (backTo pos (starEach es X.env)).any (·.1) = false) :
    PE X (.Call (.Name x p) (a :: es) [] pos) (fun σ H Q => t σ H fun vs H1 => sp vs H1 Q E) :=
  ⟨fun pins s σ H Q I h => wpAny_Call_Name_kw (ld_glob I hg hm (PySem.W.callWith_K (h₀ := X.base) I.ok.mod.kin hk (thn (ha.run pos pins s σ H _ I h) fun us s1 ⟨vs, H1, I1, r, q⟩ => ⟨I1.kIn, wpAny_call (run_fnR Fn hr hx I1 r q)⟩) he hpl) hdb)⟩
theorem de_callRC {fn : List D → Res D} (fx : Fit X c) (hT : c.T = T) (h : CalR X.prog X.w X.K X.mg X.base T x k n fn) (hr : Room j X.A) (hj : k ≤ j) (hg : Gl X x) (ha : DA X c (a :: es) fs)
    (hdb : (x == ("__debug__" : Str)) = false := by decide) (he : starEach (a :: es) X.env = (false, eval a X.env) :: starEach es X.env := by rfl) (hpl : (backTo pos (starEach es X.env)).any (·.1) = false := by rfl) :
    DE X c (.Call (.Name x p) (a :: es) [] pos) (fs.bind (M.callR n fn)) := by
  subst hT
  obtain ⟨f, hm, Fn, hk⟩ := h.ex
  refine PEw (pe_callR Fn (hr.mono hj) hk (passNo fx) hg hm ha hdb he hpl) fun σ H Q ⟨F, ρ, rr, h⟩ => ⟨F, ρ, rr, (Pst.bindA h).mono (.refl _) fun vs H1 ⟨F1, ρ1, ds, r1, l1, t1, h1⟩ => ?_⟩
  obtain ⟨z, h1⟩ := Pst.grd h1
  exact ⟨F1, ds, ⟨r1.tab, r1.ft, r1.sub⟩, by rw [fx.k, fx.mg]; exact t1, z, endN fx fx.k fx.mg r1 h1⟩
end
end DL

set_option Elab.async false
set_option linter.all false
set_option maxRecDepth 100000
set_option maxHeartbeats 4000000
/-! DM7: min and max of two texts, of a tuple of ints. -/
namespace DL
open PySem PySem.Spec PyProof.Rows L2
section
variable {prog : Program} {w : World} {A : Around} {E : Value → Shared → Prop} {s : Shared}
def txtAt (xs : Array (Str × Tok)) (i : Nat) : Str := (xs[i]?.map (·.1)).getD Str.empty
def txtItems (xs : Array (Str × Tok)) : Array Value := xs.map fun p => .str p.1 p.2
theorem txtItems_at {xs : Array (Str × Tok)} {i : Nat} {v : Value} (h : (txtItems xs)[i]? = some v) : ∃ t, v = .str (txtAt xs i) t := by
  simp only [txtItems, Array.getElem?_map, Option.map_eq_some_iff] at h
  obtain ⟨p, hp, rfl⟩ := h
  exact ⟨p.2, by simp [txtAt, hp]⟩
theorem cmp_strs_gt {P : Nat → Value → Prop} (val : Nat → Str) (hval : ∀ i v, P i v → ∃ t, v = .str (val i) t) : CmpOf prog w A .Gt P (fun i j => decide ((val j).cps.toList < (val i).cps.toList)) := fun i j vi vj s Q E hi hj h => by
  obtain ⟨t, rfl⟩ := hval i vi hi
  obtain ⟨u, rfl⟩ := hval j vj hj
  exact PySem.P.gt_str h
theorem cmp_strs_lt {P : Nat → Value → Prop} (val : Nat → Str) (hval : ∀ i v, P i v → ∃ t, v = .str (val i) t) : CmpOf prog w A .Lt P (fun i j => decide ((val i).cps.toList < (val j).cps.toList)) := fun i j vi vj s Q E hi hj h => by
  obtain ⟨t, rfl⟩ := hval i vi hi
  obtain ⟨u, rfl⟩ := hval j vj hj
  exact PySem.P.lt_str h
theorem max_two_strs {a b : Str} {t u : Tok} {Q : Value → Shared → Prop} (hh : A.handled = none)
    (h : ∀ h' tk, (∀ c o, s.heap.get? c = some o → h'.get? c = some o) → Q (if a.cps.toList < b.cps.toList then .str b u else .str a t) { s with heap := h', toks := tk }) :
    wpAny (model prog w) A (call (.builtin "max") [.str a t, .str b u]) Q E s := by
  have hT : (s.heap.push { cls := .type "tuple", data := .seq #[.str a t, .str b u] }).IsTuple s.heap.objs.size (txtItems #[(a, t), (b, u)]) := ⟨_, Heap.get?_push_size _ rfl, rfl, 0, by simp [txtItems]⟩
  refine call_max_two (wpAny_pyIter_tuple hT ?_)
  have hsz : (s.heap.push { cls := .type "tuple", data := .seq #[.str a t, .str b u] }).objs.size = s.heap.objs.size + 1 := Heap.size_push ..
  refine ⟨_, [_, s.heap.objs.size], [_], _, _, _, _, rfl, Walks.tuple (A := A.in1) hh _ s.heap.objs.size (by rw [hsz]; exact Nat.ne_of_lt (Nat.lt_succ_self _)) (txtItems #[(a, t), (b, u)]),
    ⟨⟨_, Heap.get?_push_size _ rfl, rfl, rfl⟩, hT.push _⟩, fun c hc => ?_, by simp [txtItems], cmp_strs_gt (txtAt #[(a, t), (b, u)]) (fun _ _ => txtItems_at), fun v h' tk hP hk => ?_⟩
  · show c < ((s.heap.push _).push _).objs.size
    rw [Heap.size_push, hsz]
    rcases List.mem_cons.mp hc with rfl | hc
    · rw [hsz]; exact Nat.lt_succ_self _
    · rcases List.mem_cons.mp hc with rfl | hc
      · exact Nat.lt_succ_of_lt (Nat.lt_succ_self _)
      · cases hc
  · have hold : ∀ c o, s.heap.get? c = some o → h'.get? c = some o := fun c o e => by
      refine hk c o (fun hm => ?_) (Heap.get?_push_of_some _ (Heap.get?_push_of_some _ e))
      rcases List.mem_cons.mp hm with e1 | hm
      · have := Heap.lt_size e; rw [e1, hsz] at this; exact Nat.lt_irrefl _ (Nat.lt_of_succ_lt this)
      · cases hm
    have := h h' tk hold
    have hv : v = if a.cps.toList < b.cps.toList then Value.str b u else Value.str a t := by
      have hP2 : (#[Value.str a t, Value.str b u] : Array Value)[if decide (a.cps.toList < b.cps.toList) = true then 1 else 0]? = some v := by
        have ei : txtItems #[(a, t), (b, u)] = #[.str a t, .str b u] := by simp [txtItems]
        rw [ei] at hP
        exact hP
      by_cases hba : a.cps.toList < b.cps.toList
      · rw [if_pos (decide_eq_true hba)] at hP2
        rw [if_pos hba]
        exact (Option.some.inj (show some (Value.str b u) = some v from hP2)).symm
      · rw [if_neg (by simpa using hba)] at hP2
        rw [if_neg hba]
        exact (Option.some.inj (show some (Value.str a t) = some v from hP2)).symm
    rw [hv]; exact this
theorem min_two_strs {a b : Str} {t u : Tok} {Q : Value → Shared → Prop} (hh : A.handled = none)
    (h : ∀ h' tk, (∀ c o, s.heap.get? c = some o → h'.get? c = some o) → Q (if b.cps.toList < a.cps.toList then .str b u else .str a t) { s with heap := h', toks := tk }) :
    wpAny (model prog w) A (call (.builtin "min") [.str a t, .str b u]) Q E s := by
  have hT : (s.heap.push { cls := .type "tuple", data := .seq #[.str a t, .str b u] }).IsTuple s.heap.objs.size (txtItems #[(a, t), (b, u)]) := ⟨_, Heap.get?_push_size _ rfl, rfl, 0, by simp [txtItems]⟩
  refine call_min_two (wpAny_pyIter_tuple hT ?_)
  have hsz : (s.heap.push { cls := .type "tuple", data := .seq #[.str a t, .str b u] }).objs.size = s.heap.objs.size + 1 := Heap.size_push ..
  refine ⟨_, [_, s.heap.objs.size], [_], _, _, _, _, rfl, Walks.tuple (A := A.in1) hh _ s.heap.objs.size (by rw [hsz]; exact Nat.ne_of_lt (Nat.lt_succ_self _)) (txtItems #[(a, t), (b, u)]),
    ⟨⟨_, Heap.get?_push_size _ rfl, rfl, rfl⟩, hT.push _⟩, fun c hc => ?_, by simp [txtItems], cmp_strs_lt (txtAt #[(a, t), (b, u)]) (fun _ _ => txtItems_at), fun v h' tk hP hk => ?_⟩
  · show c < ((s.heap.push _).push _).objs.size
    rw [Heap.size_push, hsz]
    rcases List.mem_cons.mp hc with rfl | hc
    · rw [hsz]; exact Nat.lt_succ_self _
    · rcases List.mem_cons.mp hc with rfl | hc
      · exact Nat.lt_succ_of_lt (Nat.lt_succ_self _)
      · cases hc
  · have hold : ∀ c o, s.heap.get? c = some o → h'.get? c = some o := fun c o e => by
      refine hk c o (fun hm => ?_) (Heap.get?_push_of_some _ (Heap.get?_push_of_some _ e))
      rcases List.mem_cons.mp hm with e1 | hm
      · have := Heap.lt_size e; rw [e1, hsz] at this; exact Nat.lt_irrefl _ (Nat.lt_of_succ_lt this)
      · cases hm
    have := h h' tk hold
    have hv : v = if b.cps.toList < a.cps.toList then Value.str b u else Value.str a t := by
      have hP2 : (#[Value.str a t, Value.str b u] : Array Value)[if decide (b.cps.toList < a.cps.toList) = true then 1 else 0]? = some v := by
        have ei : txtItems #[(a, t), (b, u)] = #[.str a t, .str b u] := by simp [txtItems]
        rw [ei] at hP
        exact hP
      by_cases hba : b.cps.toList < a.cps.toList
      · rw [if_pos (decide_eq_true hba)] at hP2
        rw [if_pos hba]
        exact (Option.some.inj (show some (Value.str b u) = some v from hP2)).symm
      · rw [if_neg (by simpa using hba)] at hP2
        rw [if_neg hba]
        exact (Option.some.inj (show some (Value.str a t) = some v from hP2)).symm
    rw [hv]; exact this
/-! a tuple of ints -/
theorem iter_intTuple {l : Addr} {xs : Array (Int × Tok)} {Q : Value → Shared → Prop} (hl : s.heap.IsTuple l (intItems xs))
    (h : ∀ s₂ : Shared, s₂ = { s with heap := s.heap.push { cls := .type "tuple_iterator", data := .fields #[.ref l, .int 0 0] } } →
      (s₂.heap.IsTupleIter s.heap.objs.size l 0 ∧ s₂.heap.IsTuple l (intItems xs)) → (∀ b ∈ [s.heap.objs.size, l], b < s₂.heap.objs.size) → l ≠ s.heap.objs.size → Q (.ref s.heap.objs.size) s₂) :
    wpAny (model prog w) A (pyIter (.ref l)) Q E s := by
  have hlt : l < s.heap.objs.size := by obtain ⟨_, e, _⟩ := hl; exact Heap.lt_size e
  refine wpAny_pyIter_tuple hl (h _ rfl ⟨⟨_, Heap.get?_push_size _ rfl, rfl, rfl⟩, hl.push _⟩ (fun b hb => ?_) (Nat.ne_of_lt hlt))
  show b < (s.heap.push _).objs.size
  rw [Heap.size_push]
  rcases List.mem_cons.mp hb with rfl | hb
  · exact Nat.lt_succ_self _
  · rcases List.mem_cons.mp hb with rfl | hb
    · exact Nat.lt_succ_of_lt hlt
    · cases hb
theorem old_keptT {o' : Obj} {h' : Heap} (hk : ∀ b o, b ∉ [s.heap.objs.size] → (s.heap.push o').get? b = some o → h'.get? b = some o) : ∀ b o, s.heap.get? b = some o → h'.get? b = some o := fun b o e => by
  refine hk b o (fun hm => ?_) (Heap.get?_push_of_some _ e)
  rcases List.mem_cons.mp hm with e1 | hm
  · exact absurd (e1 ▸ Heap.lt_size e) (Nat.lt_irrefl _)
  · cases hm
theorem min_intTuple {l : Addr} {xs : Array (Int × Tok)} {Q : Value → Shared → Prop} (hh : A.handled = none) (hl : s.heap.IsTuple l (intItems xs)) (hne : 0 < xs.size)
    (h : ∀ v h' tk, (intItems xs)[argBest (fun i j => decide (numAt xs i < numAt xs j)) (xs.size - 1)]? = some v → (∀ b o, s.heap.get? b = some o → h'.get? b = some o) → Q v { s with heap := h', toks := tk }) :
    wpAny (model prog w) A (call (.builtin "min") [.ref l]) Q E s := by
  refine call_min_walk (iter_intTuple hl fun s₂ e st hfp hlI => ?_)
  subst e
  refine ⟨_, _, _, _, _, _, _, rfl, Walks.tuple (A := A.in1) hh _ l hlI (intItems xs), st, hfp, by simpa [intItems] using hne, CmpOf.ints_lt (numAt xs) (fun _ _ => intItems_at), fun v h' tk hP hk => ?_⟩
  exact h v h' tk (by simpa [intItems] using hP) (old_keptT hk)
theorem max_intTuple {l : Addr} {xs : Array (Int × Tok)} {Q : Value → Shared → Prop} (hh : A.handled = none) (hl : s.heap.IsTuple l (intItems xs)) (hne : 0 < xs.size)
    (h : ∀ v h' tk, (intItems xs)[argBest (fun i j => decide (numAt xs i > numAt xs j)) (xs.size - 1)]? = some v → (∀ b o, s.heap.get? b = some o → h'.get? b = some o) → Q v { s with heap := h', toks := tk }) :
    wpAny (model prog w) A (call (.builtin "max") [.ref l]) Q E s := by
  refine call_max_walk (iter_intTuple hl fun s₂ e st hfp hlI => ?_)
  subst e
  refine ⟨_, _, _, _, _, _, _, rfl, Walks.tuple (A := A.in1) hh _ l hlI (intItems xs), st, hfp, by simpa [intItems] using hne, CmpOf.ints_gt (numAt xs) (fun _ _ => intItems_at), fun v h' tk hP hk => ?_⟩
  exact h v h' tk (by simpa [intItems] using hP) (old_keptT hk)
end
section
variable {X : Cx} {c : Fc} {F H : Hp} {σ : L2.St} {ρ : Sls} {a b e : Expr} {fa fb fe : M D} {fs : M (List D)} {pos p : Pos}
theorem call_max2S (hc : X.calm = true) : CallR X (.builtin "max") (fun xs H Q => ∃ i j, xs = [.str i, .str j] ∧ Q (.str (if i.cps.toList < j.cps.toList then j else i)) H) := by
  intro pins s σ H xs us Q I r h
  obtain ⟨i, j, rfl, q⟩ := h
  obtain ⟨u, w', rfl, ⟨t, rfl⟩, ⟨t', rfl⟩⟩ := vals2 r
  refine max_two_strs (I.ok.hd hc) fun h' tk k => ⟨_, H, I.kept k, ?_, q⟩
  by_cases hj : i.cps.toList < j.cps.toList
  · rw [if_pos hj, if_pos hj]; exact ⟨_, rfl⟩
  · rw [if_neg hj, if_neg hj]; exact ⟨_, rfl⟩
theorem call_min2S (hc : X.calm = true) : CallR X (.builtin "min") (fun xs H Q => ∃ i j, xs = [.str i, .str j] ∧ Q (.str (if j.cps.toList < i.cps.toList then j else i)) H) := by
  intro pins s σ H xs us Q I r h
  obtain ⟨i, j, rfl, q⟩ := h
  obtain ⟨u, w', rfl, ⟨t, rfl⟩, ⟨t', rfl⟩⟩ := vals2 r
  refine min_two_strs (I.ok.hd hc) fun h' tk k => ⟨_, H, I.kept k, ?_, q⟩
  by_cases hj : j.cps.toList < i.cps.toList
  · rw [if_pos hj, if_pos hj]; exact ⟨_, rfl⟩
  · rw [if_neg hj, if_neg hj]; exact ⟨_, rfl⟩
def maxA : D → D → M D
  | .int i, .int j => M.ret (.int (if j > i then j else i))
  | .str i, .str j => M.ret (.str (if i.cps.toList < j.cps.toList then j else i))
  | _, _ => M.no
def minA : D → D → M D
  | .int i, .int j => M.ret (.int (if j < i then j else i))
  | .str i, .str j => M.ret (.str (if j.cps.toList < i.cps.toList then j else i))
  | _, _ => M.no
theorem de_maxA (hc : X.calm = true) (hg : Gl X "max") (hm : X.mg "max" = none) (ha : DA X c [a, b] fs) (he : starEach [a, b] X.env = (false, eval a X.env) :: starEach [b] X.env := by rfl) (hpl : (backTo pos (starEach [b] X.env)).any (·.1) = false := by rfl) :
    DE X c (.Call (.Name "max" p) [a, b] [] pos) (fs.bind (g2 maxA)) :=
  de_callB ((call_max2 hc).or (call_max2S hc)) (call2 fun F H σ ρ x y d e Q rr t u q => by
    cases t with
    | int i =>
      cases u with
      | int j => exact .inl ⟨i, j, rfl, q.ret rr (.int _)⟩
      | _ => exact False.elim q
    | str i =>
      cases u with
      | str j => exact .inr ⟨i, j, rfl, q.ret rr (.str _)⟩
      | _ => exact False.elim q
    | _ => exact False.elim q) hg hm (by decide +kernel) ha (by decide) (by decide) he hpl
theorem de_minA (hc : X.calm = true) (hg : Gl X "min") (hm : X.mg "min" = none) (ha : DA X c [a, b] fs) (he : starEach [a, b] X.env = (false, eval a X.env) :: starEach [b] X.env := by rfl) (hpl : (backTo pos (starEach [b] X.env)).any (·.1) = false := by rfl) :
    DE X c (.Call (.Name "min" p) [a, b] [] pos) (fs.bind (g2 minA)) :=
  de_callB ((call_min2 hc).or (call_min2S hc)) (call2 fun F H σ ρ x y d e Q rr t u q => by
    cases t with
    | int i =>
      cases u with
      | int j => exact .inl ⟨i, j, rfl, q.ret rr (.int _)⟩
      | _ => exact False.elim q
    | str i =>
      cases u with
      | str j => exact .inr ⟨i, j, rfl, q.ret rr (.str _)⟩
      | _ => exact False.elim q
    | _ => exact False.elim q) hg hm (by decide +kernel) ha (by decide) (by decide) he hpl
/-! of a list or a tuple of ints -/
theorem minT_raw {prog : Program} {w : World} {A : Around} {E : Value → Shared → Prop} {s : Shared} {l : Addr} {its : List Value} {ns : List Int} {Q : Value → Shared → Prop} (hh : A.handled = none) (hl : IsTup s.heap l its.toArray) (hi : IntsAre its ns) (hne : 0 < ns.length)
    (h : ∀ h' tk M t', (∀ b o, s.heap.get? b = some o → h'.get? b = some o) → M ∈ ns → (∀ a, a ∈ ns → M ≤ a) → Q (.int M t') { s with heap := h', toks := tk }) : wpAny (model prog w) A (call (.builtin "min") [.ref l]) Q E s := by
  obtain ⟨xs, e⟩ := hi.allInts.items
  have hn : numsOf (intItems xs).toList = ns := by rw [← e]; exact hi.numsOf
  rw [nums_intItems] at hn
  subst hn
  rw [e] at hl
  have hsz : 0 < xs.size := by simpa using hne
  refine min_intTuple hh hl hsz fun v h' tk hv hk => ?_
  obtain ⟨t, rfl⟩ := intItems_at hv
  obtain ⟨h1, h2⟩ := argBest_lt (numAt xs) (xs.size - 1)
  refine h h' tk _ t hk ?_ fun a ha => ?_
  · rw [numAt_eq]; exact PySem.getD_mem (by rw [List.length_map, Array.length_toList]; omega)
  · obtain ⟨j, hj, rfl⟩ := mem_getD ha
    rw [List.length_map, Array.length_toList] at hj
    rw [← numAt_eq]; exact h2 j (by omega)
theorem maxT_raw {prog : Program} {w : World} {A : Around} {E : Value → Shared → Prop} {s : Shared} {l : Addr} {its : List Value} {ns : List Int} {Q : Value → Shared → Prop} (hh : A.handled = none) (hl : IsTup s.heap l its.toArray) (hi : IntsAre its ns) (hne : 0 < ns.length)
    (h : ∀ h' tk M t', (∀ b o, s.heap.get? b = some o → h'.get? b = some o) → M ∈ ns → (∀ a, a ∈ ns → a ≤ M) → Q (.int M t') { s with heap := h', toks := tk }) : wpAny (model prog w) A (call (.builtin "max") [.ref l]) Q E s := by
  obtain ⟨xs, e⟩ := hi.allInts.items
  have hn : numsOf (intItems xs).toList = ns := by rw [← e]; exact hi.numsOf
  rw [nums_intItems] at hn
  subst hn
  rw [e] at hl
  have hsz : 0 < xs.size := by simpa using hne
  refine max_intTuple hh hl hsz fun v h' tk hv hk => ?_
  obtain ⟨t, rfl⟩ := intItems_at hv
  obtain ⟨h1, h2⟩ := argBest_gt (numAt xs) (xs.size - 1)
  refine h h' tk _ t hk ?_ fun a ha => ?_
  · rw [numAt_eq]; exact PySem.getD_mem (by rw [List.length_map, Array.length_toList]; omega)
  · obtain ⟨j, hj, rfl⟩ := mem_getD ha
    rw [List.length_map, Array.length_toList] at hj
    rw [← numAt_eq]; exact h2 j (by omega)
def rMinT (K : PySem.W.Frag) : List V → Hp → VK → Prop := fun vs H Q => ∃ (a : Addr) (ns : List Int), vs = [V.ref a] ∧ SqT K H a (ns.map V.int) ∧ 0 < ns.length ∧ ∀ m, m ∈ ns → (∀ y, y ∈ ns → m ≤ y) → Q (.int m) H
def rMaxT (K : PySem.W.Frag) : List V → Hp → VK → Prop := fun vs H Q => ∃ (a : Addr) (ns : List Int), vs = [V.ref a] ∧ SqT K H a (ns.map V.int) ∧ 0 < ns.length ∧ ∀ m, m ∈ ns → (∀ y, y ∈ ns → y ≤ m) → Q (.int m) H
theorem cr_minT (hc : X.calm = true) : CallR X (.builtin "min") (rMinT X.K) := by
  intro pins s σ H vs us Q I r h
  obtain ⟨a, ns, rfl, hs, hne, q⟩ := h
  obtain ⟨its, rv, hl, _⟩ := I.tuple hs
  rw [Vals.ref1 r]
  exact minT_raw (I.ok.hd hc) hl rv.ints hne fun h' tk m t' hk h1 h2 => ⟨.int _, H, I.kept hk, ⟨_, rfl⟩, q m h1 h2⟩
theorem cr_maxT (hc : X.calm = true) : CallR X (.builtin "max") (rMaxT X.K) := by
  intro pins s σ H vs us Q I r h
  obtain ⟨a, ns, rfl, hs, hne, q⟩ := h
  obtain ⟨its, rv, hl, _⟩ := I.tuple hs
  rw [Vals.ref1 r]
  exact maxT_raw (I.ok.hd hc) hl rv.ints hne fun h' tk m t' hk h1 h2 => ⟨.int _, H, I.kept hk, ⟨_, rfl⟩, q m h1 h2⟩
def leastI : Int → List Int → Int
  | m, [] => m
  | m, x :: r => leastI (if x < m then x else m) r
def mostI : Int → List Int → Int
  | m, [] => m
  | m, x :: r => mostI (if m < x then x else m) r
theorem leastI_is : ∀ (r : List Int) (m : Int), leastI m r ≤ m ∧ (∀ y ∈ r, leastI m r ≤ y) ∧ (leastI m r = m ∨ leastI m r ∈ r)
  | [], m => ⟨Int.le_refl _, fun _ h => (by cases h), .inl rfl⟩
  | x :: r, m => by
    obtain ⟨h1, h2, h3⟩ := leastI_is r (if x < m then x else m)
    unfold leastI
    refine ⟨by split at h1 <;> split <;> omega, fun y hy => ?_, ?_⟩
    · rcases List.mem_cons.mp hy with rfl | hy
      · by_cases q : y < m
        · rw [if_pos q] at h1 ⊢; exact h1
        · rw [if_neg q] at h1 ⊢; omega
      · exact h2 y hy
    · rcases h3 with h3 | h3
      · by_cases q : x < m
        · rw [if_pos q] at h3 ⊢; exact .inr (by rw [h3]; exact List.mem_cons_self ..)
        · rw [if_neg q] at h3 ⊢; exact .inl h3
      · exact .inr (List.mem_cons_of_mem _ h3)
theorem mostI_is : ∀ (r : List Int) (m : Int), m ≤ mostI m r ∧ (∀ y ∈ r, y ≤ mostI m r) ∧ (mostI m r = m ∨ mostI m r ∈ r)
  | [], m => ⟨Int.le_refl _, fun _ h => (by cases h), .inl rfl⟩
  | x :: r, m => by
    obtain ⟨h1, h2, h3⟩ := mostI_is r (if m < x then x else m)
    unfold mostI
    refine ⟨by split at h1 <;> split <;> omega, fun y hy => ?_, ?_⟩
    · rcases List.mem_cons.mp hy with rfl | hy
      · by_cases q : m < y
        · rw [if_pos q] at h1 ⊢; exact h1
        · rw [if_neg q] at h1 ⊢; omega
      · exact h2 y hy
    · rcases h3 with h3 | h3
      · by_cases q : m < x
        · rw [if_pos q] at h3 ⊢; exact .inr (by rw [h3]; exact List.mem_cons_self ..)
        · rw [if_neg q] at h3 ⊢; exact .inl h3
      · exact .inr (List.mem_cons_of_mem _ h3)
def least1 (ds : List D) : M D := match intsD ds with
  | some (i :: r) => M.ret (.int (leastI i r))
  | _ => M.no
def most1 (ds : List D) : M D := match intsD ds with
  | some (i :: r) => M.ret (.int (mostI i r))
  | _ => M.no
def min1D : D → M D
  | .lst ds | .rol ds | .tup ds => least1 ds
  | _ => M.no
def max1D : D → M D
  | .lst ds | .rol ds | .tup ds => most1 ds
  | _ => M.no
theorem least1_of {ds : List D} {xs : List V} {Q : VK} (rr : R c F H σ ρ) (t : c.Dts F xs ds) (q : Pst c σ F (least1 ds ρ) Q) : ∃ ns : List Int, xs = ns.map V.int ∧ 0 < ns.length ∧ ∀ m, m ∈ ns → (∀ y, y ∈ ns → m ≤ y) → Q (.int m) H := by
  unfold least1 at q
  cases e : intsD ds with
  | none => rw [e] at q; exact False.elim q
  | some ns =>
    rw [e] at q
    cases ns with
    | nil => exact False.elim q
    | cons i r =>
      refine ⟨i :: r, intsD_of t e, Nat.succ_pos _, fun m hm hl => ?_⟩
      obtain ⟨h1, h2, h3⟩ := leastI_is r i
      have : m = leastI i r := by
        refine Int.le_antisymm ?_ ?_
        · rcases h3 with h3 | h3
          · rw [h3]; exact hl i (List.mem_cons_self ..)
          · exact hl _ (List.mem_cons_of_mem _ h3)
        · rcases List.mem_cons.mp hm with rfl | hm
          · exact h1
          · exact h2 m hm
      rw [this]
      exact q.ret rr (.int _)
theorem most1_of {ds : List D} {xs : List V} {Q : VK} (rr : R c F H σ ρ) (t : c.Dts F xs ds) (q : Pst c σ F (most1 ds ρ) Q) : ∃ ns : List Int, xs = ns.map V.int ∧ 0 < ns.length ∧ ∀ m, m ∈ ns → (∀ y, y ∈ ns → y ≤ m) → Q (.int m) H := by
  unfold most1 at q
  cases e : intsD ds with
  | none => rw [e] at q; exact False.elim q
  | some ns =>
    rw [e] at q
    cases ns with
    | nil => exact False.elim q
    | cons i r =>
      refine ⟨i :: r, intsD_of t e, Nat.succ_pos _, fun m hm hl => ?_⟩
      obtain ⟨h1, h2, h3⟩ := mostI_is r i
      have : m = mostI i r := by
        refine Int.le_antisymm ?_ ?_
        · rcases List.mem_cons.mp hm with rfl | hm
          · exact h1
          · exact h2 m hm
        · rcases h3 with h3 | h3
          · rw [h3]; exact hl i (List.mem_cons_self ..)
          · exact hl _ (List.mem_cons_of_mem _ h3)
      rw [this]
      exact q.ret rr (.int _)
theorem de_min1 (fx : Fit X c) (hc : X.calm = true) (hg : Gl X "min") (hm : X.mg "min" = none) (ha : DA X c [a] fs) (he : starEach [a] X.env = (false, eval a X.env) :: starEach [] X.env := by rfl) (hpl : (backTo pos (starEach [] X.env)).any (·.1) = false := by rfl) :
    DE X c (.Call (.Name "min" p) [a] [] pos) (fs.bind (g1 min1D)) :=
  de_callB ((cr_min hc).or (cr_minT hc)) (call1 fun F H σ ρ x d Q rr t q => by
    rw [fx.k]
    cases t with
    | @lst a xs ds e t => obtain ⟨ns, e1, h1, h2⟩ := least1_of rr t q; subst e1; exact .inl ⟨a, ns, rfl, rr.sub.sqL e, h1, h2⟩
    | @rol a xs ds e t => obtain ⟨ns, e1, h1, h2⟩ := least1_of rr t q; subst e1; exact .inl ⟨a, ns, rfl, SqL.le rr.sub e, h1, h2⟩
    | @tup a xs ds e t => obtain ⟨ns, e1, h1, h2⟩ := least1_of rr t q; subst e1; exact .inr ⟨a, ns, rfl, SqT.le rr.sub e, h1, h2⟩
    | _ => exact False.elim q) hg hm (by decide +kernel) ha (by decide) (by decide) he hpl
theorem de_max1 (fx : Fit X c) (hc : X.calm = true) (hg : Gl X "max") (hm : X.mg "max" = none) (ha : DA X c [a] fs) (he : starEach [a] X.env = (false, eval a X.env) :: starEach [] X.env := by rfl) (hpl : (backTo pos (starEach [] X.env)).any (·.1) = false := by rfl) :
    DE X c (.Call (.Name "max" p) [a] [] pos) (fs.bind (g1 max1D)) :=
  de_callB ((cr_max hc).or (cr_maxT hc)) (call1 fun F H σ ρ x d Q rr t q => by
    rw [fx.k]
    cases t with
    | @lst a xs ds e t => obtain ⟨ns, e1, h1, h2⟩ := most1_of rr t q; subst e1; exact .inl ⟨a, ns, rfl, rr.sub.sqL e, h1, h2⟩
    | @rol a xs ds e t => obtain ⟨ns, e1, h1, h2⟩ := most1_of rr t q; subst e1; exact .inl ⟨a, ns, rfl, SqL.le rr.sub e, h1, h2⟩
    | @tup a xs ds e t => obtain ⟨ns, e1, h1, h2⟩ := most1_of rr t q; subst e1; exact .inr ⟨a, ns, rfl, SqT.le rr.sub e, h1, h2⟩
    | _ => exact False.elim q) hg hm (by decide +kernel) ha (by decide) (by decide) he hpl
end
end DL

set_option Elab.async false
set_option linter.all false
set_option maxRecDepth 100000
set_option maxHeartbeats 4000000
/-! DM8: enumerate and zip over lists, tuples, texts. -/
namespace DL
open PySem PySem.Spec PyProof.Rows L2
/-- what is drawn from: a list, a tuple, a text -/
inductive Sr
  | lst (a : Addr) (xs : List V)
  | tup (a : Addr) (xs : List V)
  | str (z : Str)
def Sr.items : Sr → List V
  | .lst _ xs | .tup _ xs => xs
  | .str z => z.cps.toList.map fun n => .str ⟨#[n]⟩
def Sr.here (K : PySem.W.Frag) (H : Hp) : Sr → Prop
  | .lst a xs => SqL K H a xs
  | .tup a xs => SqT K H a xs
  | .str _ => True
def Sr.isOf : Sr → V → Prop
  | .lst a _, v | .tup a _, v => v = .ref a
  | .str z, v => v = .str z
def Sr.adrs : Sr → List Addr
  | .lst a _ | .tup a _ => [a]
  | .str _ => []
def Sr.cur (t : Tok) (it : Addr) (i : Nat) (h : Heap) : Sr → Prop
  | .lst a _ => h.IsListIter it a i
  | .tup a _ => h.IsTupleIter it a i
  | .str z => h.IsStrIter it (strIterType z) z t i
theorem Sr.cur.at {sr : Sr} {t : Tok} {it : Addr} {i : Nat} {h h' : Heap} (x : sr.cur t it i h) (e : ∀ o, h.get? it = some o → h'.get? it = some o) : sr.cur t it i h' := by
  cases sr with
  | lst a xs => exact Heap.IsListIter.at x e
  | tup a xs => exact Heap.IsTupleIter.at x e
  | str z => obtain ⟨o, h1, r⟩ := x; exact ⟨o, e _ h1, r⟩
theorem Sr.cur.obj {sr : Sr} {t : Tok} {it : Addr} {i : Nat} {h : Heap} (x : sr.cur t it i h) : ∃ o, h.get? it = some o ∧ ∀ v, o.data ≠ .cell v := by
  cases sr with
  | lst a xs => obtain ⟨o, h1, _, d⟩ := x; exact ⟨o, h1, fun v q => by rw [d] at q; cases q⟩
  | tup a xs => obtain ⟨o, h1, _, d⟩ := x; exact ⟨o, h1, fun v q => by rw [d] at q; cases q⟩
  | str z => obtain ⟨o, h1, _, d⟩ := x; exact ⟨o, h1, fun v q => by rw [d] at q; cases q⟩
section
variable {X : Cx} {pins : List (Addr × Obj)} {σ : L2.St} {H : Hp} {s : Shared} {A : Around}
theorem relat {xs : List V} {its : List Value} (r : Vals xs its) {j : Nat} {v : Value} (h : its.toArray[j]? = some v) : ∃ x, xs[j]? = some x ∧ RelV x v := by
  have h : its[j]? = some v := by simpa using h
  have hl : j < its.length := (List.getElem?_eq_some_iff.mp h).1
  have hx : xs[j]? = some (xs[j]'(by rw [r.length]; exact hl)) := List.getElem?_eq_getElem _
  obtain ⟨u, hu, ru⟩ := r.get hx
  rw [h] at hu
  cases hu
  exact ⟨_, hx, ru⟩
theorem Sr.draws (sr : Sr) (I : Inv X pins σ H s) (hh : A.handled = none) {it : Addr} {t : Tok} {i : Nat} (hr : sr.here X.K H) (cu : sr.cur t it i s.heap) :
    ∃ (P : Nat → Value → Prop) (St : Nat → Heap → Prop), Draws X.prog X.w A it (it :: sr.adrs) sr.items.length P St ∧ St i s.heap ∧ (∀ j v, P j v → ∃ x, sr.items[j]? = some x ∧ RelV x v) ∧ ∀ j h', St j h' → sr.cur t it j h' := by
  cases sr with
  | lst a xs =>
    obtain ⟨its, r, p, hz⟩ := I.list hr
    have hne : a ≠ it := fun e => by
      subst e
      obtain ⟨o, h1, c1, _⟩ := p.isList
      obtain ⟨o2, h2, c2, _⟩ := cu
      rw [h1] at h2
      cases h2
      rw [c1] at c2
      exact absurd c2 (by decide)
    have hl : its.toArray.size = xs.length := by rw [List.size_toArray, r.length]
    refine ⟨fun j v => its.toArray[j]? = some v, fun j h' => h'.IsListIter it a j ∧ h'.IsList a its.toArray, ?_, ⟨cu, p.isList⟩, fun j v h => relat r h, fun j h' q => q.1⟩
    have D := Draws.list (prog := X.prog) (w := X.w) (A := A) hh it a hne its.toArray
    rw [hl] at D
    exact D
  | tup a xs =>
    obtain ⟨its, r, p, hz⟩ := I.tuple hr
    have hne : a ≠ it := fun e => by
      subst e
      obtain ⟨o, h1, c1, _⟩ := id p
      obtain ⟨o2, h2, c2, _⟩ := cu
      rw [h1] at h2
      cases h2
      rw [c1] at c2
      exact absurd c2 (by decide)
    have hl : its.toArray.size = xs.length := by rw [List.size_toArray, r.length]
    refine ⟨fun j v => its.toArray[j]? = some v, fun j h' => h'.IsTupleIter it a j ∧ h'.IsTuple a its.toArray, ?_, ⟨cu, p⟩, fun j v h => relat r h, fun j h' q => q.1⟩
    have D := Draws.tuple (prog := X.prog) (w := X.w) (A := A) hh it a hne its.toArray
    rw [hl] at D
    exact D
  | str z =>
    refine ⟨fun j v => ∃ c u, z.cps[j]? = some c ∧ v = .str ⟨#[c]⟩ u, fun j h' => Sr.cur t it j h' (.str z), ?_, cu, ?_, fun j h' q => q⟩
    · have D := Draws.text (prog := X.prog) (w := X.w) (A := A) hh it z t
      have hl : (Sr.str z).items.length = z.cps.size := by simp [Sr.items]
      rw [hl]
      exact D
    · rintro j v ⟨c, u, hc, rfl⟩
      refine ⟨.str ⟨#[c]⟩, ?_, ⟨_, rfl⟩⟩
      show (z.cps.toList.map fun n => V.str ⟨#[n]⟩)[j]? = _
      rw [List.getElem?_map, Array.getElem?_toList, hc]
      rfl
/-- an iterator over it begins -/
theorem Sr.begins (sr : Sr) (I : Inv X pins σ H s) (hr : sr.here X.K H) {v : V} {u : Value} (hv : sr.isOf v) (r : RelV v u) :
    ∃ (t : Tok) (o : Obj) (Hq : Heap → Prop), Begins u o Hq ∧ Hq s.heap ∧ (∀ it h', h'.get? it = some o → sr.cur t it 0 h') ∧ ∀ b ∈ sr.adrs, b < s.heap.objs.size := by
  cases sr with
  | lst a xs =>
    obtain ⟨its, rv, p, hz⟩ := I.list hr
    have hv : v = .ref a := hv
    subst hv
    cases r
    refine ⟨0, _, _, begins_list a its.toArray, p.isList, fun it h' e => ⟨_, e, rfl, rfl⟩, fun b hb => ?_⟩
    have e : b = a := by simpa [Sr.adrs] using hb
    rw [e]
    obtain ⟨o, h1, _⟩ := p.isList
    exact Heap.lt_size h1
  | tup a xs =>
    obtain ⟨its, rv, p, hz⟩ := I.tuple hr
    have hv : v = .ref a := hv
    subst hv
    cases r
    refine ⟨0, _, _, begins_tuple a its.toArray, p, fun it h' e => ⟨_, e, rfl, rfl⟩, fun b hb => ?_⟩
    have e : b = a := by simpa [Sr.adrs] using hb
    rw [e]
    obtain ⟨o, h1, _⟩ := id p
    exact Heap.lt_size h1
  | str z =>
    have hv : v = .str z := hv
    subst hv
    obtain ⟨t, rfl⟩ := r
    exact ⟨t, _, _, begins_text z t, trivial, fun it h' e => ⟨_, e, rfl, rfl⟩, fun b hb => by cases hb⟩
end

/-! ### enumerate -/
set_option maxHeartbeats 1000000 in
theorem meets_enumerate_newB1 {v : Value} {o : Obj} {H : Heap → Prop} (B : Begins v o H) :
    Meets (Builtin.«enumerate.__new__» ⟨[.type "enumerate", v], []⟩) (fun _ R s => H s.heap ∧
      R (.ok (.ret (.ref (s.heap.push o).objs.size))) { s with heap := (s.heap.push o).push { cls := .type "enumerate", data := .fields #[.none, .bool false, .ref s.heap.objs.size, rawInt 0, .none, .none] } }) :=
  .of_wp fun prog w A R s h => by
    obtain ⟨hp, g, d, tk, os⟩ := s; obtain ⟨h1, h⟩ := h
    have hsub := sub_enumerate
    have q1 : ∀ {A' : Around} {E : Value → Shared → Prop} {Q : Value → Shared → Prop}, Q (.ref hp.objs.size) ⟨hp.push o, g, d, tk, os⟩ → wpAny (model prog w) A' (pyIter v) Q E ⟨hp, g, d, tk, os⟩ :=
      fun q => B.iter prog w _ _ ⟨hp, g, d, tk, os⟩ _ h1 q
    wp_walk using q1
    refine wpAny_stack_any fun st => wpAny_pure ?_
    split
    · rename_i c _ _ _ _ _
      cases (c == Value.type "enumerate")
      · wp_walk using q1
        exact ⟨_, rfl, h⟩
      · wp_walk using q1
        exact ⟨_, rfl, h⟩
    · wp_walk using q1
      exact ⟨_, rfl, h⟩
theorem enum_begins1 {prog : Program} {w : World} {A : Around} {E : Value → Shared → Prop} {s : Shared} {v : Value} {o : Obj} {H : Heap → Prop} {Q : Value → Shared → Prop} (B : Begins v o H) (h1 : H s.heap)
    (h : ∀ h', IsEnum h' (s.heap.objs.size + 1) s.heap.objs.size 0 .none → h'.get? s.heap.objs.size = some o → h'.objs.size = s.heap.objs.size + 2 →
      (∀ b o, s.heap.get? b = some o → h'.get? b = some o) → Q (.ref (s.heap.objs.size + 1)) { s with heap := h' }) :
    wpAny (model prog w) A (call (.type "enumerate") [v]) Q E s := by
  refine callType_new F.called_enumerate (by decide) (F.typeCall_enumerate_1 _) (F.newCall_enumerate_1 _) (fun obj => F.args_object_init_2 obj _) F.entry_enumerate_new
    (meets_enumerate_newB1 B) ⟨h1, ?_⟩
  have hz : (s.heap.push o).objs.size = s.heap.objs.size + 1 := Heap.size_push ..
  show _ ∧ _
  rw [hz]
  have he : IsEnum ((s.heap.push o).push { cls := .type "enumerate", data := .fields #[.none, .bool false, .ref s.heap.objs.size, rawInt 0, .none, .none] }) (s.heap.objs.size + 1) s.heap.objs.size 0 .none := by
    have := Heap.get?_push_size (s.heap.push o) (o := { cls := .type "enumerate", data := .fields #[.none, .bool false, .ref s.heap.objs.size, rawInt 0, .none, .none] }) rfl
    rw [hz] at this; exact this
  refine ⟨⟨_, he, rfl⟩, h _ he (Heap.get?_push_of_some _ (Heap.get?_push_size _ B.free)) (by rw [Heap.size_push, hz]) fun b o x => Heap.get?_push_of_some _ (Heap.get?_push_of_some _ x)⟩
/-- each item in a new pair with its number -/
def IteS (K : PySem.W.Frag) (sr : Sr) : It :=
  ⟨fun i H => sr.here K H ∧ i < sr.items.length, fun i H v H' => ∃ T x, v = .ref T ∧ H T = none ∧ H' = upd H T (.tup [.int (i : Nat), x]) ∧ sr.items[i]? = some x, fun i H => sr.here K H ∧ sr.items.length ≤ i⟩
theorem turn_enumS {P : Program} {w : World} {K : PySem.W.Frag} {elts : List Expr} {kk : Nat} {tpos : Pos} (sr : Sr) (t : Tok) (N : Addr) (hN : ∀ b ∈ sr.adrs, b < N) :
    Turn P w K (.Tuple elts kk tpos) (IteS K sr) [N + 1, N] (N + 1) (fun i h => (∃ old, IsEnum h (N + 1) N ((i : Nat) : Int) old) ∧ sr.cur t N i h ∧ i ≤ sr.items.length) where
  mem := by simp
  obj := fun i h st b hb => by
    obtain ⟨⟨old, he⟩, hi, _⟩ := st
    have e' : b = N + 1 ∨ b = N := by simpa using hb
    rcases e' with z | z
    · rw [z]; exact ⟨_, he, fun v q => nomatch q⟩
    · rw [z]; exact hi.obj
  keep := fun i h h' st k => let ⟨⟨old, he⟩, hi, hl⟩ := st; ⟨⟨old, k _ (by simp) _ he⟩, hi.at fun o q => k _ (by simp) o q, hl⟩
  item := by
    intro X hP hw hK hc i pins s σ H E I hf st hg
    subst hP hw hK
    obtain ⟨⟨old, he⟩, hit, hle⟩ := st
    obtain ⟨hr, hlt⟩ := hg
    have hh : X.A.in1.handled = none := I.ok.hd hc
    obtain ⟨P1, St1, D, st1, hp, hcu⟩ := sr.draws I hh hr hit
    have hel : N + 1 < s.heap.objs.size := Heap.lt_size he
    have hne : N + 1 ≠ N := Nat.succ_ne_self _
    have hef : N + 1 ∉ N :: sr.adrs := fun q => by
      rcases List.mem_cons.mp q with z | z
      · exact hne z
      · exact absurd (hN _ z) (Nat.not_lt.mpr (Nat.le_succ N))
    refine wpAny_pyNext_enum_itemC D he st1 hlt hne hef fun x h' tk hP ho hs' hT hsz hk => ?_
    obtain ⟨y, hy, ry⟩ := hp _ _ hP
    refine ⟨_, rfl, wpAny_letOwnedTupleGo_enum (s := { s with heap := h', toks := tk + 1 }) ho fun h'' he' sb => ?_⟩
    have hT2 : h''.get? s.heap.objs.size = some { cls := .type "tuple", data := .seq #[.int i tk, x] } := (sb.2 _ (Nat.ne_of_gt hel)).trans hT
    have new : ObjOk X.prog X.w (upd H s.heap.objs.size (.tup [.int (i : Nat), y])) h'' s.heap.objs.size (.tup [.int (i : Nat), y]) :=
      ⟨by show 2 ≤ sizeLine; decide, [.int i tk, x], .cons ⟨_, rfl⟩ (.cons ry .nil), ⟨_, hT2, rfl, _, rfl⟩⟩
    have I1 : Inv X pins σ (upd H s.heap.objs.size (.tup [.int (i : Nat), y])) { s with heap := h'', toks := tk + 1 } :=
      I.turnedNew (ch := [N + 1, N]) (fun b ob hb q => (sb.2 b (fun z => hb (by simp [z]))).trans (hk b ob (fun z => hb (by simp [z])) (fun z => hb (by simp [z])) q)) hf (Nat.le_refl _) new
    refine ⟨.ref s.heap.objs.size, _, I1, rfl, ⟨_, y, rfl, I.hok.fresh (Nat.le_refl _), rfl, hy⟩, ⟨⟨x, ?_⟩, (hcu _ _ hs').at fun o q => (sb.2 N (Ne.symm hne)).trans q, hlt⟩, fun b hb => ?_⟩
    · have e1 : ((i + 1 : Nat) : Int) = (i : Int) + 1 := by omega
      rw [e1]; exact he'
    · have hb' : b < s.heap.objs.size := by
        have e' : b = N + 1 ∨ b = N := by simpa using hb
        rcases e' with z | z
        · rw [z]; exact hel
        · rw [z]; exact Nat.lt_of_succ_lt hel
      rw [upd_ne (Nat.ne_of_lt hb')]
      exact (hf b hb).1
  done := by
    intro X hP hw hK hc i pins s σ H E I hf st hg
    subst hP hw hK
    obtain ⟨⟨old, he⟩, hit, hle⟩ := st
    obtain ⟨hr, hge⟩ := hg
    have hh : X.A.in1.handled = none := I.ok.hd hc
    have e : i = sr.items.length := by omega
    subst e
    obtain ⟨P1, St1, D, st1, hp, hcu⟩ := sr.draws I hh hr hit
    obtain ⟨f0, f1, f2, f3, f4, f5⟩ := hf N (by simp)
    exact wpAny_pyNext_enum_endD D he st1 fun h' eb => ⟨rfl, I.turned (t' := s.toks) (fun b o hb q => eb b o hb q) f0 f1 f3 f4 f5⟩
  self := fun A i s Q E st h => let ⟨⟨_, he⟩, _⟩ := st; wpAny_pyIter_enum he h
def iEnumS (K : PySem.W.Frag) (ta : TA) : TI := fun σ H R => ta σ H fun vs H1 => ∃ v sr, vs = [v] ∧ Sr.isOf sr v ∧ sr.here K H1 ∧ R (IteS K sr) H1
theorem pi_enumS {X : Cx} {e : Expr} {ta : TA} {p pos tpos : Pos} {elts : List Expr} {kk : Nat} (hg : Gl X "enumerate") (hm : X.mg "enumerate" = none) (ha : PA X [e] ta) (hs : starEach [e] X.env = [(false, eval e X.env)] := by rfl) :
    PI X (.Tuple elts kk tpos) (.Call (.Name "enumerate" p) [e] [] pos) (iEnumS X.K ta) := by
  refine ⟨fun pins s σ H R I h => ?_⟩
  refine Call_ (ld_blt I hg hm boot_enumerate (PyProof.Rows.callWith_type1 (thn (ha.run pos pins s σ H _ I h) fun us s1 ⟨vs, H1, I1, r1, q1⟩ => ?_) hs rfl))
  obtain ⟨v, sr, ex, hv, hr, q⟩ := q1
  subst ex
  cases r1 with
  | cons r rr =>
    cases rr
    obtain ⟨t, o, Hq, B, hB, hcu, hlt⟩ := sr.begins I1 hr hv r
    refine enum_begins1 B hB fun h' he hit hsz hk => wpAny_pyIter_enum he ?_
    have I2 : Inv X pins σ H1 { s1 with heap := h' } := I1.kept (t' := s1.toks) hk
    refine ⟨s1.heap.objs.size + 1, [s1.heap.objs.size + 1, s1.heap.objs.size], _, _, H1, rfl, I2, turn_enumS sr t s1.heap.objs.size hlt, ⟨⟨.none, he⟩, hcu _ _ hit, Nat.zero_le _⟩, fun b hb => ?_, q⟩
    have e' : b = s1.heap.objs.size + 1 ∨ b = s1.heap.objs.size := by simpa using hb
    have hle : s1.heap.objs.size ≤ b := by
      rcases e' with z | z
      · rw [z]; exact Nat.le_add_right _ _
      · rw [z]; exact Nat.le_refl _
    exact I1.fpOk hle (I1.hok.fresh hle)
section
variable {X : Cx} {c : Fc} {F H : Hp} {σ : L2.St} {ρ : Sls} {tg a b e : Expr} {fa fb fe : M D} {fs : M (List D)} {pos p : Pos}
/-- what is gone through: a list, a tuple, a text -/
def seqD : D → Option (List D)
  | .lst ds | .rol ds | .tup ds => some ds
  | .str x => some (signs x)
  | _ => none
theorem signs_items (F : Hp) (z : Str) : c.Dts F (Sr.str z).items (signs z) := by
  unfold signs
  show c.Dts F (z.cps.toList.map fun n => V.str ⟨#[n]⟩) _
  generalize z.cps.toList = l
  induction l with
  | nil => exact .nil
  | cons n l ih => exact .cons (.str _) ih
theorem sr_of {v : V} {d : D} {es : List D} (t : c.Dt F v d) (h : seqD d = some es) : ∃ sr, Sr.isOf sr v ∧ c.Dts F sr.items es ∧ ∀ F' H', Le F F' → Le F' H' → sr.here c.K H' := by
  cases t with
  | @lst a xs ds e t => cases h; exact ⟨.lst a xs, rfl, t, fun F' H' l s => .inl (.inl (s _ _ (l _ _ e)))⟩
  | @rol a xs ds e t => cases h; exact ⟨.lst a xs, rfl, t, fun F' H' l s => SqL.le (l.trans s) e⟩
  | @tup a xs ds e t => cases h; exact ⟨.tup a xs, rfl, t, fun F' H' l s => SqT.le (l.trans s) e⟩
  | str z => cases h; exact ⟨.str z, rfl, signs_items F z, fun _ _ _ _ => trivial⟩
  | _ => cases h
def enumA : List D → M (List D)
  | [d] => match seqD d with
    | some es => M.ret (pairsD es)
    | none => M.no
  | _ => M.no
theorem di_enumA {elts : List Expr} {kk : Nat} {tpos : Pos} (fx : Fit X c) (hg : Gl X "enumerate") (hm : X.mg "enumerate" = none) (ha : DA X c [a] fs) (hs : starEach [a] X.env = [(false, eval a X.env)] := by rfl) : DI X c (.Tuple elts kk tpos) (.Call (.Name "enumerate" p) [a] [] pos) (fs.bind enumA) :=
  PIw (pi_enumS hg hm ha hs) fun σ H Q ⟨F, ρ, rr, h⟩ => ⟨F, ρ, rr, (PIt.bindA h).mono (.refl _) fun vs H1 ⟨F1, ρ1, ds, r1, l1, t1, h1⟩ => by
    rw [fx.k]
    cases t1 with
    | nil => exact False.elim h1
    | @cons v _ d _ t tt =>
      cases tt with
      | cons _ _ => exact False.elim h1
      | nil =>
        unfold enumA at h1
        cases he : seqD d with
        | none => dsimp only at h1; rw [he] at h1; exact False.elim h1
        | some es =>
          dsimp only at h1
          rw [he] at h1
          obtain ⟨sr, hv, ts, hh⟩ := sr_of t he
          refine ⟨v, sr, rfl, hv, hh F1 H1 (.refl _) r1.sub, h1 _ F1 H1 r1 (.refl _) ⟨fun i F' H' l s hi => ⟨hh F' H' l s, ?_⟩, fun i d F' H' l s hi => ?_⟩⟩
          · rw [pairsD_len] at hi; rw [ts.length]; exact hi
          · obtain ⟨x, e1, e2⟩ := pairsD_at hi
            subst e2
            obtain ⟨y, hy, dy⟩ := ts.get e1
            refine ⟨⟨hh F' H' l s, (List.getElem?_eq_some_iff.mp hy).1⟩, fun z H2 ⟨T, y', ez, hT, eH, q'⟩ => ?_⟩
            rw [hy] at q'
            cases q'
            subst ez eH
            exact pair_dt s hT (dy.le l)⟩
end
end DL

set_option Elab.async false
set_option linter.all false
set_option maxRecDepth 100000
set_option maxHeartbeats 4000000
/-! DM9: zip of two and of three over lists, tuples, texts (printed by mkzip). -/
namespace DL
open PySem PySem.Spec PyProof.Rows L2
/-! ### zip of 2 -/
def Itz2 (K : PySem.W.Frag) (r1 r2 : Sr) : It :=
  ⟨fun i H => r1.here K H ∧ r2.here K H ∧ i < r1.items.length ∧ i < r2.items.length, fun i H v H' => ∃ T x1 x2, v = .ref T ∧ H T = none ∧ H' = upd H T (.tup [x1, x2]) ∧ r1.items[i]? = some x1 ∧ r2.items[i]? = some x2, fun i H => r1.here K H ∧ r2.here K H ∧ (r1.items.length ≤ i ∨ r2.items.length ≤ i)⟩
theorem turn_zS2 {P : Program} {w : World} {K : PySem.W.Frag} {elts : List Expr} {kk : Nat} {tpos : Pos} (r1 r2 : Sr) (t1 t2 : Tok) (N : Addr) (hN1 : ∀ b ∈ r1.adrs, b < N) (hN2 : ∀ b ∈ r2.adrs, b < N) :
    Turn P w K (.Tuple elts kk tpos) (Itz2 K r1 r2) [(N + 4), (N + 2), (N + 3), N, (N + 1)] (N + 4) (fun i h => IsZip h (N + 4) (N + 2) (N + 3) .none ∧ IsTupOf2 h (N + 2) (.ref N) (.ref (N + 1)) ∧ (∃ a1 a2, IsTupOf2 h (N + 3) a1 a2) ∧ r1.cur t1 N i h ∧ r2.cur t2 (N + 1) i h ∧ i ≤ r1.items.length ∧ i ≤ r2.items.length) where
  mem := by simp
  obj := fun i h st cc hc => by
    obtain ⟨hz, hTI, ⟨a1, a2, hTO⟩, h1, h2, l1, l2⟩ := st
    have e' : cc = (N + 4) ∨ cc = (N + 2) ∨ cc = (N + 3) ∨ cc = N ∨ cc = (N + 1) := by simpa using hc
    rcases e' with q | q | q | q | q
    · rw [q]; exact ⟨_, hz, fun v q => nomatch q⟩
    · rw [q]; exact ⟨_, hTI, fun v q => nomatch q⟩
    · rw [q]; exact ⟨_, hTO, fun v q => nomatch q⟩
    · rw [q]; exact h1.obj
    · rw [q]; exact h2.obj
  keep := fun i h h' st k => by
    obtain ⟨hz, hTI, ⟨a1, a2, hTO⟩, h1, h2, l1, l2⟩ := st
    exact ⟨k _ (by simp) _ hz, k _ (by simp) _ hTI, ⟨a1, a2, k _ (by simp) _ hTO⟩, h1.at fun o q => k _ (by simp) o q, h2.at fun o q => k _ (by simp) o q, l1, l2⟩
  item := by
    intro X hP hw hK hc i pins s σ H E I hf st hg
    subst hP hw hK
    obtain ⟨hz, hTI, ⟨a1, a2, hTO⟩, h1, h2, l1, l2⟩ := st
    obtain ⟨hr1, hr2, hl1, hl2⟩ := hg
    have hh : X.A.in1.handled = none := I.ok.hd hc
    obtain ⟨P1, St1, D1, st1, hp1, hcu1⟩ := r1.draws I hh hr1 h1
    obtain ⟨P2, St2, D2, st2, hp2, hcu2⟩ := r2.draws I hh hr2 h2
    have S := zip_sep2 hN1 hN2
    have hzl : (N + 4) < s.heap.objs.size := Heap.lt_size hz
    refine wpAny_pyNext_zipD2_item S D1 D2 hz hTI hTO st1 st2 hl1 hl2 fun x1 x2 h' tk hP1 hP2 z' TO' st1' st2' hT hsz hk => ?_
    obtain ⟨y1, hy1, ry1⟩ := hp1 _ _ hP1
    obtain ⟨y2, hy2, ry2⟩ := hp2 _ _ hP2
    refine ⟨_, rfl, wpAny_letOwnedTupleGo_zip (s := { s with heap := h', toks := tk }) z' fun h'' z'' sb => ?_⟩
    have hT2 : h''.get? s.heap.objs.size = some { cls := .type "tuple", data := .seq #[x1, x2] } := (sb.2 _ (Nat.ne_of_gt hzl)).trans hT
    have new : ObjOk X.prog X.w (upd H s.heap.objs.size (.tup [y1, y2])) h'' s.heap.objs.size (.tup [y1, y2]) :=
      ⟨by show 2 ≤ sizeLine; decide, [x1, x2], .cons ry1 (.cons ry2 .nil), ⟨_, hT2, rfl, _, rfl⟩⟩
    have I1 : Inv X pins σ (upd H s.heap.objs.size (.tup [y1, y2])) { s with heap := h'', toks := tk } :=
      I.turnedNew (t' := tk) (ch := [(N + 4), (N + 2), (N + 3), N, (N + 1)]) (fun cc o hb q => (sb.2 cc (fun q' => hb (by simp [q']))).trans (hk cc o (fun q' => hb (by simp [q'])) (fun q' => hb (by simp [q'])) (fun q' => hb (by simp [q'])) (fun q' => hb (by simp [q'])) q)) hf (Nat.le_refl _) new
    refine ⟨.ref s.heap.objs.size, _, I1, rfl, ⟨_, y1, y2, rfl, I.hok.fresh (Nat.le_refl _), rfl, hy1, hy2⟩, ⟨z'', ?_, ⟨x1, x2, ?_⟩, (hcu1 _ _ st1').at fun o q => (sb.2 _ (Ne.symm S.zi1)).trans q, (hcu2 _ _ st2').at fun o q => (sb.2 _ (Ne.symm S.zi2)).trans q, hl1, hl2⟩, fun cc hcm => ?_⟩
    · exact (sb.2 _ S.TIz).trans (hk _ _ S.TIz S.TITO S.TIi1 S.TIi2 hTI)
    · exact (sb.2 _ S.TOz).trans TO'
    · have hlt : cc < s.heap.objs.size := by
        have e' : cc = (N + 4) ∨ cc = (N + 2) ∨ cc = (N + 3) ∨ cc = N ∨ cc = (N + 1) := by simpa using hcm
        rcases e' with q | q | q | q | q
        · rw [q]; exact hzl
        · rw [q]; exact Heap.lt_size hTI
        · rw [q]; exact Heap.lt_size hTO
        · rw [q]; obtain ⟨_, e1, _⟩ := h1.obj; exact Heap.lt_size e1
        · rw [q]; obtain ⟨_, e1, _⟩ := h2.obj; exact Heap.lt_size e1
      rw [upd_ne (Nat.ne_of_lt hlt)]
      exact (hf cc hcm).1
  done := by
    intro X hP hw hK hc i pins s σ H E I hf st hg
    subst hP hw hK
    obtain ⟨hz, hTI, ⟨a1, a2, hTO⟩, h1, h2, l1, l2⟩ := st
    obtain ⟨hr1, hr2, hend⟩ := hg
    have hh : X.A.in1.handled = none := I.ok.hd hc
    obtain ⟨P1, St1, D1, st1, hp1, hcu1⟩ := r1.draws I hh hr1 h1
    obtain ⟨P2, St2, D2, st2, hp2, hcu2⟩ := r2.draws I hh hr2 h2
    have S := zip_sep2 hN1 hN2
    have he : i = r1.items.length ∨ i = r2.items.length := by omega
    exact wpAny_pyNext_zipD2_end S D1 D2 hz hTI hTO st1 st2 l1 l2 he fun h' tk hk => ⟨rfl, I.turnedL (t' := tk) (ch := [(N + 4), (N + 2), (N + 3), N, (N + 1)]) (fun cc o hb q => hk cc o (fun q' => hb (by simp [q'])) (fun q' => hb (by simp [q'])) (fun q' => hb (by simp [q'])) (fun q' => hb (by simp [q'])) q) hf⟩
  self := fun A i s Q E st h => wpAny_pyIter_zip st.1 h
def iZS2 (K : PySem.W.Frag) (ta : TA) : TI := fun σ H R => ta σ H fun vs H1 => ∃ (v1 v2 : V) (r1 r2 : Sr), vs = [v1, v2] ∧ Sr.isOf r1 v1 ∧ Sr.isOf r2 v2 ∧ r1.here K H1 ∧ r2.here K H1 ∧ R (Itz2 K r1 r2) H1
theorem pi_zS2 {X : Cx} {e1 e2 : Expr} {ta : TA} {p pos tpos : Pos} {elts : List Expr} {kk : Nat} (hg : Gl X "zip") (hm : X.mg "zip" = none) (ha : PA X [e1, e2] ta)
    (hs : starEach [e1, e2] X.env = (false, eval e1 X.env) :: starEach [e2] X.env := by rfl) (hpl : (backTo pos (starEach [e2] X.env)).any (·.1) = false := by rfl) :
    PI X (.Tuple elts kk tpos) (.Call (.Name "zip" p) [e1, e2] [] pos) (iZS2 X.K ta) := by
  refine ⟨fun pins s σ H R I h => ?_⟩
  refine Call_ (ld_blt I hg hm PyProof.Rows.boot_zip (PyProof.Rows.callWith_type1 (thn (ha.run pos pins s σ H _ I h) fun us s1 ⟨vs, H1, I1, r1, q1⟩ => ?_) hs hpl))
  obtain ⟨v1, v2, r1, r2, ex, hv1, hv2, hr1, hr2, q⟩ := q1
  subst ex
  cases r1 with
  | cons k1 r1 =>
    cases r1 with
    | cons k2 r1 =>
      cases r1
      obtain ⟨t1, o1, Hq1, B1, hB1, hcu1, hlt1⟩ := r1.begins I1 hr1 hv1 k1
      obtain ⟨t2, o2, Hq2, B2, hB2, hcu2, hlt2⟩ := r2.begins I1 hr2 hv2 k2
      refine zip_begins2 B1 B2 hB1 hB2 fun h' hz hTI hTO hi1 hi2 hsz hk => wpAny_pyIter_zip hz ?_
      have I2 : Inv X pins σ H1 { s1 with heap := h' } := I1.kept (t' := s1.toks) hk
      refine ⟨(s1.heap.objs.size + 4), [(s1.heap.objs.size + 4), (s1.heap.objs.size + 2), (s1.heap.objs.size + 3), s1.heap.objs.size, (s1.heap.objs.size + 1)], _, _, H1, rfl, I2, turn_zS2 r1 r2 t1 t2 s1.heap.objs.size hlt1 hlt2, ⟨hz, hTI, ⟨_, _, hTO⟩, hcu1 _ _ hi1, hcu2 _ _ hi2, Nat.zero_le _, Nat.zero_le _⟩, fun cc hcm => ?_, q⟩
      have e' : cc = (s1.heap.objs.size + 4) ∨ cc = (s1.heap.objs.size + 2) ∨ cc = (s1.heap.objs.size + 3) ∨ cc = s1.heap.objs.size ∨ cc = (s1.heap.objs.size + 1) := by simpa using hcm
      have hle : s1.heap.objs.size ≤ cc := by
        rcases e' with q | q | q | q | q
        · rw [q]; exact Nat.le_add_right _ _
        · rw [q]; exact Nat.le_add_right _ _
        · rw [q]; exact Nat.le_add_right _ _
        · rw [q]; exact Nat.le_refl _
        · rw [q]; exact Nat.le_add_right _ _
      exact I1.fpOk hle (I1.hok.fresh hle)
section
variable {X : Cx} {c : Fc} {F H : Hp} {σ : L2.St} {ρ : Sls} {tg e1 e2 : Expr} {fs : M (List D)} {pos p : Pos}
def zipD2 : List D → List D → List D
  | a :: as, b :: bs => .tup [a, b] :: zipD2 as bs
  | _, _ => []
theorem zipD2_at : ∀ {as bs : List D} {i : Nat} {d : D}, (zipD2 as bs)[i]? = some d → ∃ a1 a2, as[i]? = some a1 ∧ bs[i]? = some a2 ∧ d = .tup [a1, a2]
  | [], _, _, _, h => by cases h
  | _ :: _, [], _, _, h => by cases h
  | a :: as, b :: bs, 0, d, h => by cases h; exact ⟨a, b, rfl, rfl, rfl⟩
  | a :: as, b :: bs, i + 1, d, h => zipD2_at (as := as) (bs := bs) h
theorem zipD2_end : ∀ {as bs : List D} {i : Nat}, (zipD2 as bs).length ≤ i → as.length ≤ i ∨ bs.length ≤ i
  | [], _, _, _ => .inl (Nat.zero_le _)
  | _ :: _, [], _, _ => .inr (Nat.zero_le _)
  | a :: as, b :: bs, 0, h => absurd h (Nat.not_succ_le_zero _)
  | a :: as, b :: bs, i + 1, h => (zipD2_end (as := as) (bs := bs) (Nat.le_of_succ_le_succ h)).imp Nat.succ_le_succ Nat.succ_le_succ
def zipM2 : List D → M (List D)
  | [d1, d2] => match seqD d1, seqD d2 with
    | some x1, some x2 => M.ret (zipD2 x1 x2)
    | _, _ => M.no
  | _ => M.no
theorem di_zip2 {elts : List Expr} {kk : Nat} {tpos : Pos} (fx : Fit X c) (hg : Gl X "zip") (hm : X.mg "zip" = none) (ha : DA X c [e1, e2] fs) (hs : starEach [e1, e2] X.env = (false, eval e1 X.env) :: starEach [e2] X.env := by rfl) (hpl : (backTo pos (starEach [e2] X.env)).any (·.1) = false := by rfl) : DI X c (.Tuple elts kk tpos) (.Call (.Name "zip" p) [e1, e2] [] pos) (fs.bind zipM2) :=
  PIw (pi_zS2 hg hm ha hs hpl) fun σ H Q ⟨F, ρ, rr, h⟩ => ⟨F, ρ, rr, (PIt.bindA h).mono (.refl _) fun vs H1 ⟨F1, ρ1, ds, rR, l1, t1, h1⟩ => by
    rw [fx.k]
    cases t1 with
    | nil => exact False.elim h1
    | @cons v1 _ d1 _ t1 t1 =>
      cases t1 with
      | nil => exact False.elim h1
      | @cons v2 _ d2 _ t2 t1 =>
        cases t1 with
        | cons _ _ => exact False.elim h1
        | nil =>
          unfold zipM2 at h1
          dsimp only at h1
          cases he1 : seqD d1 with
          | none => simp only [he1] at h1; exact False.elim h1
          | some x1 =>
            cases he2 : seqD d2 with
            | none => simp only [he1, he2] at h1; exact False.elim h1
            | some x2 =>
              simp only [he1, he2] at h1
              obtain ⟨r1, hv1, ts1, hh1⟩ := sr_of t1 he1
              obtain ⟨r2, hv2, ts2, hh2⟩ := sr_of t2 he2
              refine ⟨v1, v2, r1, r2, rfl, hv1, hv2, hh1 F1 H1 (.refl _) rR.sub, hh2 F1 H1 (.refl _) rR.sub, h1 _ F1 H1 rR (.refl _) ⟨fun i F' H' l s hi => ⟨hh1 F' H' l s, hh2 F' H' l s, ?_⟩, fun i d F' H' l s hi => ?_⟩⟩
              · have q := zipD2_end hi
                rw [ts1.length, ts2.length]; exact q
              · obtain ⟨z1, z2, q1, q2, ed⟩ := zipD2_at hi
                subst ed
                obtain ⟨y1, hy1, dy1⟩ := ts1.get q1
                obtain ⟨y2, hy2, dy2⟩ := ts2.get q2
                refine ⟨⟨hh1 F' H' l s, hh2 F' H' l s, (List.getElem?_eq_some_iff.mp hy1).1, (List.getElem?_eq_some_iff.mp hy2).1⟩, fun z H2 ⟨T, w1, w2, ez, hT, eH, p1, p2⟩ => ?_⟩
                rw [hy1] at p1; cases p1
                rw [hy2] at p2; cases p2
                subst ez eH
                have e : Ext c.T F' H' (upd F' T (.tup [y1, y2])) (upd H' T (.tup [y1, y2])) := .new s hT
                exact ⟨_, e, .tup (SqT.of upd_same) (.cons (dy1.le (l.trans (e.le s))) (.cons (dy2.le (l.trans (e.le s))) .nil))⟩⟩
end
/-! ### zip of 3 -/
def Itz3 (K : PySem.W.Frag) (r1 r2 r3 : Sr) : It :=
  ⟨fun i H => r1.here K H ∧ r2.here K H ∧ r3.here K H ∧ i < r1.items.length ∧ i < r2.items.length ∧ i < r3.items.length, fun i H v H' => ∃ T x1 x2 x3, v = .ref T ∧ H T = none ∧ H' = upd H T (.tup [x1, x2, x3]) ∧ r1.items[i]? = some x1 ∧ r2.items[i]? = some x2 ∧ r3.items[i]? = some x3, fun i H => r1.here K H ∧ r2.here K H ∧ r3.here K H ∧ (r1.items.length ≤ i ∨ r2.items.length ≤ i ∨ r3.items.length ≤ i)⟩
theorem turn_zS3 {P : Program} {w : World} {K : PySem.W.Frag} {elts : List Expr} {kk : Nat} {tpos : Pos} (r1 r2 r3 : Sr) (t1 t2 t3 : Tok) (N : Addr) (hN1 : ∀ b ∈ r1.adrs, b < N) (hN2 : ∀ b ∈ r2.adrs, b < N) (hN3 : ∀ b ∈ r3.adrs, b < N) :
    Turn P w K (.Tuple elts kk tpos) (Itz3 K r1 r2 r3) [(N + 5), (N + 3), (N + 4), N, (N + 1), (N + 2)] (N + 5) (fun i h => IsZip h (N + 5) (N + 3) (N + 4) .none ∧ IsTupOf3 h (N + 3) (.ref N) (.ref (N + 1)) (.ref (N + 2)) ∧ (∃ a1 a2 a3, IsTupOf3 h (N + 4) a1 a2 a3) ∧ r1.cur t1 N i h ∧ r2.cur t2 (N + 1) i h ∧ r3.cur t3 (N + 2) i h ∧ i ≤ r1.items.length ∧ i ≤ r2.items.length ∧ i ≤ r3.items.length) where
  mem := by simp
  obj := fun i h st cc hc => by
    obtain ⟨hz, hTI, ⟨a1, a2, a3, hTO⟩, h1, h2, h3, l1, l2, l3⟩ := st
    have e' : cc = (N + 5) ∨ cc = (N + 3) ∨ cc = (N + 4) ∨ cc = N ∨ cc = (N + 1) ∨ cc = (N + 2) := by simpa using hc
    rcases e' with q | q | q | q | q | q
    · rw [q]; exact ⟨_, hz, fun v q => nomatch q⟩
    · rw [q]; exact ⟨_, hTI, fun v q => nomatch q⟩
    · rw [q]; exact ⟨_, hTO, fun v q => nomatch q⟩
    · rw [q]; exact h1.obj
    · rw [q]; exact h2.obj
    · rw [q]; exact h3.obj
  keep := fun i h h' st k => by
    obtain ⟨hz, hTI, ⟨a1, a2, a3, hTO⟩, h1, h2, h3, l1, l2, l3⟩ := st
    exact ⟨k _ (by simp) _ hz, k _ (by simp) _ hTI, ⟨a1, a2, a3, k _ (by simp) _ hTO⟩, h1.at fun o q => k _ (by simp) o q, h2.at fun o q => k _ (by simp) o q, h3.at fun o q => k _ (by simp) o q, l1, l2, l3⟩
  item := by
    intro X hP hw hK hc i pins s σ H E I hf st hg
    subst hP hw hK
    obtain ⟨hz, hTI, ⟨a1, a2, a3, hTO⟩, h1, h2, h3, l1, l2, l3⟩ := st
    obtain ⟨hr1, hr2, hr3, hl1, hl2, hl3⟩ := hg
    have hh : X.A.in1.handled = none := I.ok.hd hc
    obtain ⟨P1, St1, D1, st1, hp1, hcu1⟩ := r1.draws I hh hr1 h1
    obtain ⟨P2, St2, D2, st2, hp2, hcu2⟩ := r2.draws I hh hr2 h2
    obtain ⟨P3, St3, D3, st3, hp3, hcu3⟩ := r3.draws I hh hr3 h3
    have S := zip_sep3 hN1 hN2 hN3
    have hzl : (N + 5) < s.heap.objs.size := Heap.lt_size hz
    refine wpAny_pyNext_zipD3_item S D1 D2 D3 hz hTI hTO st1 st2 st3 hl1 hl2 hl3 fun x1 x2 x3 h' tk hP1 hP2 hP3 z' TO' st1' st2' st3' hT hsz hk => ?_
    obtain ⟨y1, hy1, ry1⟩ := hp1 _ _ hP1
    obtain ⟨y2, hy2, ry2⟩ := hp2 _ _ hP2
    obtain ⟨y3, hy3, ry3⟩ := hp3 _ _ hP3
    refine ⟨_, rfl, wpAny_letOwnedTupleGo_zip (s := { s with heap := h', toks := tk }) z' fun h'' z'' sb => ?_⟩
    have hT2 : h''.get? s.heap.objs.size = some { cls := .type "tuple", data := .seq #[x1, x2, x3] } := (sb.2 _ (Nat.ne_of_gt hzl)).trans hT
    have new : ObjOk X.prog X.w (upd H s.heap.objs.size (.tup [y1, y2, y3])) h'' s.heap.objs.size (.tup [y1, y2, y3]) :=
      ⟨by show 3 ≤ sizeLine; decide, [x1, x2, x3], .cons ry1 (.cons ry2 (.cons ry3 .nil)), ⟨_, hT2, rfl, _, rfl⟩⟩
    have I1 : Inv X pins σ (upd H s.heap.objs.size (.tup [y1, y2, y3])) { s with heap := h'', toks := tk } :=
      I.turnedNew (t' := tk) (ch := [(N + 5), (N + 3), (N + 4), N, (N + 1), (N + 2)]) (fun cc o hb q => (sb.2 cc (fun q' => hb (by simp [q']))).trans (hk cc o (fun q' => hb (by simp [q'])) (fun q' => hb (by simp [q'])) (fun q' => hb (by simp [q'])) (fun q' => hb (by simp [q'])) (fun q' => hb (by simp [q'])) q)) hf (Nat.le_refl _) new
    refine ⟨.ref s.heap.objs.size, _, I1, rfl, ⟨_, y1, y2, y3, rfl, I.hok.fresh (Nat.le_refl _), rfl, hy1, hy2, hy3⟩, ⟨z'', ?_, ⟨x1, x2, x3, ?_⟩, (hcu1 _ _ st1').at fun o q => (sb.2 _ (Ne.symm S.zi1)).trans q, (hcu2 _ _ st2').at fun o q => (sb.2 _ (Ne.symm S.zi2)).trans q, (hcu3 _ _ st3').at fun o q => (sb.2 _ (Ne.symm S.zi3)).trans q, hl1, hl2, hl3⟩, fun cc hcm => ?_⟩
    · exact (sb.2 _ S.TIz).trans (hk _ _ S.TIz S.TITO S.TIi1 S.TIi2 S.TIi3 hTI)
    · exact (sb.2 _ S.TOz).trans TO'
    · have hlt : cc < s.heap.objs.size := by
        have e' : cc = (N + 5) ∨ cc = (N + 3) ∨ cc = (N + 4) ∨ cc = N ∨ cc = (N + 1) ∨ cc = (N + 2) := by simpa using hcm
        rcases e' with q | q | q | q | q | q
        · rw [q]; exact hzl
        · rw [q]; exact Heap.lt_size hTI
        · rw [q]; exact Heap.lt_size hTO
        · rw [q]; obtain ⟨_, e1, _⟩ := h1.obj; exact Heap.lt_size e1
        · rw [q]; obtain ⟨_, e1, _⟩ := h2.obj; exact Heap.lt_size e1
        · rw [q]; obtain ⟨_, e1, _⟩ := h3.obj; exact Heap.lt_size e1
      rw [upd_ne (Nat.ne_of_lt hlt)]
      exact (hf cc hcm).1
  done := by
    intro X hP hw hK hc i pins s σ H E I hf st hg
    subst hP hw hK
    obtain ⟨hz, hTI, ⟨a1, a2, a3, hTO⟩, h1, h2, h3, l1, l2, l3⟩ := st
    obtain ⟨hr1, hr2, hr3, hend⟩ := hg
    have hh : X.A.in1.handled = none := I.ok.hd hc
    obtain ⟨P1, St1, D1, st1, hp1, hcu1⟩ := r1.draws I hh hr1 h1
    obtain ⟨P2, St2, D2, st2, hp2, hcu2⟩ := r2.draws I hh hr2 h2
    obtain ⟨P3, St3, D3, st3, hp3, hcu3⟩ := r3.draws I hh hr3 h3
    have S := zip_sep3 hN1 hN2 hN3
    have he : i = r1.items.length ∨ i = r2.items.length ∨ i = r3.items.length := by omega
    exact wpAny_pyNext_zipD3_end S D1 D2 D3 hz hTI hTO st1 st2 st3 l1 l2 l3 he fun h' tk hk => ⟨rfl, I.turnedL (t' := tk) (ch := [(N + 5), (N + 3), (N + 4), N, (N + 1), (N + 2)]) (fun cc o hb q => hk cc o (fun q' => hb (by simp [q'])) (fun q' => hb (by simp [q'])) (fun q' => hb (by simp [q'])) (fun q' => hb (by simp [q'])) (fun q' => hb (by simp [q'])) q) hf⟩
  self := fun A i s Q E st h => wpAny_pyIter_zip st.1 h
def iZS3 (K : PySem.W.Frag) (ta : TA) : TI := fun σ H R => ta σ H fun vs H1 => ∃ (v1 v2 v3 : V) (r1 r2 r3 : Sr), vs = [v1, v2, v3] ∧ Sr.isOf r1 v1 ∧ Sr.isOf r2 v2 ∧ Sr.isOf r3 v3 ∧ r1.here K H1 ∧ r2.here K H1 ∧ r3.here K H1 ∧ R (Itz3 K r1 r2 r3) H1
theorem pi_zS3 {X : Cx} {e1 e2 e3 : Expr} {ta : TA} {p pos tpos : Pos} {elts : List Expr} {kk : Nat} (hg : Gl X "zip") (hm : X.mg "zip" = none) (ha : PA X [e1, e2, e3] ta)
    (hs : starEach [e1, e2, e3] X.env = (false, eval e1 X.env) :: starEach [e2, e3] X.env := by rfl) (hpl : (backTo pos (starEach [e2, e3] X.env)).any (·.1) = false := by rfl) :
    PI X (.Tuple elts kk tpos) (.Call (.Name "zip" p) [e1, e2, e3] [] pos) (iZS3 X.K ta) := by
  refine ⟨fun pins s σ H R I h => ?_⟩
  refine Call_ (ld_blt I hg hm PyProof.Rows.boot_zip (PyProof.Rows.callWith_type1 (thn (ha.run pos pins s σ H _ I h) fun us s1 ⟨vs, H1, I1, r1, q1⟩ => ?_) hs hpl))
  obtain ⟨v1, v2, v3, r1, r2, r3, ex, hv1, hv2, hv3, hr1, hr2, hr3, q⟩ := q1
  subst ex
  cases r1 with
  | cons k1 r1 =>
    cases r1 with
    | cons k2 r1 =>
      cases r1 with
      | cons k3 r1 =>
        cases r1
        obtain ⟨t1, o1, Hq1, B1, hB1, hcu1, hlt1⟩ := r1.begins I1 hr1 hv1 k1
        obtain ⟨t2, o2, Hq2, B2, hB2, hcu2, hlt2⟩ := r2.begins I1 hr2 hv2 k2
        obtain ⟨t3, o3, Hq3, B3, hB3, hcu3, hlt3⟩ := r3.begins I1 hr3 hv3 k3
        refine zip_begins3 B1 B2 B3 hB1 hB2 hB3 fun h' hz hTI hTO hi1 hi2 hi3 hsz hk => wpAny_pyIter_zip hz ?_
        have I2 : Inv X pins σ H1 { s1 with heap := h' } := I1.kept (t' := s1.toks) hk
        refine ⟨(s1.heap.objs.size + 5), [(s1.heap.objs.size + 5), (s1.heap.objs.size + 3), (s1.heap.objs.size + 4), s1.heap.objs.size, (s1.heap.objs.size + 1), (s1.heap.objs.size + 2)], _, _, H1, rfl, I2, turn_zS3 r1 r2 r3 t1 t2 t3 s1.heap.objs.size hlt1 hlt2 hlt3, ⟨hz, hTI, ⟨_, _, _, hTO⟩, hcu1 _ _ hi1, hcu2 _ _ hi2, hcu3 _ _ hi3, Nat.zero_le _, Nat.zero_le _, Nat.zero_le _⟩, fun cc hcm => ?_, q⟩
        have e' : cc = (s1.heap.objs.size + 5) ∨ cc = (s1.heap.objs.size + 3) ∨ cc = (s1.heap.objs.size + 4) ∨ cc = s1.heap.objs.size ∨ cc = (s1.heap.objs.size + 1) ∨ cc = (s1.heap.objs.size + 2) := by simpa using hcm
        have hle : s1.heap.objs.size ≤ cc := by
          rcases e' with q | q | q | q | q | q
          · rw [q]; exact Nat.le_add_right _ _
          · rw [q]; exact Nat.le_add_right _ _
          · rw [q]; exact Nat.le_add_right _ _
          · rw [q]; exact Nat.le_refl _
          · rw [q]; exact Nat.le_add_right _ _
          · rw [q]; exact Nat.le_add_right _ _
        exact I1.fpOk hle (I1.hok.fresh hle)
section
variable {X : Cx} {c : Fc} {F H : Hp} {σ : L2.St} {ρ : Sls} {tg e1 e2 e3 : Expr} {fs : M (List D)} {pos p : Pos}
def zipD3 : List D → List D → List D → List D
  | a :: as, b :: bs, e :: es => .tup [a, b, e] :: zipD3 as bs es
  | _, _, _ => []
theorem zipD3_at : ∀ {as bs es : List D} {i : Nat} {d : D}, (zipD3 as bs es)[i]? = some d → ∃ a1 a2 a3, as[i]? = some a1 ∧ bs[i]? = some a2 ∧ es[i]? = some a3 ∧ d = .tup [a1, a2, a3]
  | [], _, _, _, _, h => by cases h
  | _ :: _, [], _, _, _, h => by cases h
  | _ :: _, _ :: _, [], _, _, h => by cases h
  | a :: as, b :: bs, e :: es, 0, d, h => by cases h; exact ⟨a, b, e, rfl, rfl, rfl, rfl⟩
  | a :: as, b :: bs, e :: es, i + 1, d, h => zipD3_at (as := as) (bs := bs) (es := es) h
theorem zipD3_end : ∀ {as bs es : List D} {i : Nat}, (zipD3 as bs es).length ≤ i → as.length ≤ i ∨ bs.length ≤ i ∨ es.length ≤ i
  | [], _, _, _, _ => .inl (Nat.zero_le _)
  | _ :: _, [], _, _, _ => .inr (.inl (Nat.zero_le _))
  | _ :: _, _ :: _, [], _, _ => .inr (.inr (Nat.zero_le _))
  | a :: as, b :: bs, e :: es, 0, h => absurd h (Nat.not_succ_le_zero _)
  | a :: as, b :: bs, e :: es, i + 1, h => (zipD3_end (as := as) (bs := bs) (es := es) (Nat.le_of_succ_le_succ h)).imp Nat.succ_le_succ fun q => q.imp Nat.succ_le_succ Nat.succ_le_succ
def zipM3 : List D → M (List D)
  | [d1, d2, d3] => match seqD d1, seqD d2, seqD d3 with
    | some x1, some x2, some x3 => M.ret (zipD3 x1 x2 x3)
    | _, _, _ => M.no
  | _ => M.no
theorem di_zip3 {elts : List Expr} {kk : Nat} {tpos : Pos} (fx : Fit X c) (hg : Gl X "zip") (hm : X.mg "zip" = none) (ha : DA X c [e1, e2, e3] fs) (hs : starEach [e1, e2, e3] X.env = (false, eval e1 X.env) :: starEach [e2, e3] X.env := by rfl) (hpl : (backTo pos (starEach [e2, e3] X.env)).any (·.1) = false := by rfl) : DI X c (.Tuple elts kk tpos) (.Call (.Name "zip" p) [e1, e2, e3] [] pos) (fs.bind zipM3) :=
  PIw (pi_zS3 hg hm ha hs hpl) fun σ H Q ⟨F, ρ, rr, h⟩ => ⟨F, ρ, rr, (PIt.bindA h).mono (.refl _) fun vs H1 ⟨F1, ρ1, ds, rR, l1, t1, h1⟩ => by
    rw [fx.k]
    cases t1 with
    | nil => exact False.elim h1
    | @cons v1 _ d1 _ t1 t1 =>
      cases t1 with
      | nil => exact False.elim h1
      | @cons v2 _ d2 _ t2 t1 =>
        cases t1 with
        | nil => exact False.elim h1
        | @cons v3 _ d3 _ t3 t1 =>
          cases t1 with
          | cons _ _ => exact False.elim h1
          | nil =>
            unfold zipM3 at h1
            dsimp only at h1
            cases he1 : seqD d1 with
            | none => simp only [he1] at h1; exact False.elim h1
            | some x1 =>
              cases he2 : seqD d2 with
              | none => simp only [he1, he2] at h1; exact False.elim h1
              | some x2 =>
                cases he3 : seqD d3 with
                | none => simp only [he1, he2, he3] at h1; exact False.elim h1
                | some x3 =>
                  simp only [he1, he2, he3] at h1
                  obtain ⟨r1, hv1, ts1, hh1⟩ := sr_of t1 he1
                  obtain ⟨r2, hv2, ts2, hh2⟩ := sr_of t2 he2
                  obtain ⟨r3, hv3, ts3, hh3⟩ := sr_of t3 he3
                  refine ⟨v1, v2, v3, r1, r2, r3, rfl, hv1, hv2, hv3, hh1 F1 H1 (.refl _) rR.sub, hh2 F1 H1 (.refl _) rR.sub, hh3 F1 H1 (.refl _) rR.sub, h1 _ F1 H1 rR (.refl _) ⟨fun i F' H' l s hi => ⟨hh1 F' H' l s, hh2 F' H' l s, hh3 F' H' l s, ?_⟩, fun i d F' H' l s hi => ?_⟩⟩
                  · have q := zipD3_end hi
                    rw [ts1.length, ts2.length, ts3.length]; exact q
                  · obtain ⟨z1, z2, z3, q1, q2, q3, ed⟩ := zipD3_at hi
                    subst ed
                    obtain ⟨y1, hy1, dy1⟩ := ts1.get q1
                    obtain ⟨y2, hy2, dy2⟩ := ts2.get q2
                    obtain ⟨y3, hy3, dy3⟩ := ts3.get q3
                    refine ⟨⟨hh1 F' H' l s, hh2 F' H' l s, hh3 F' H' l s, (List.getElem?_eq_some_iff.mp hy1).1, (List.getElem?_eq_some_iff.mp hy2).1, (List.getElem?_eq_some_iff.mp hy3).1⟩, fun z H2 ⟨T, w1, w2, w3, ez, hT, eH, p1, p2, p3⟩ => ?_⟩
                    rw [hy1] at p1; cases p1
                    rw [hy2] at p2; cases p2
                    rw [hy3] at p3; cases p3
                    subst ez eH
                    have e : Ext c.T F' H' (upd F' T (.tup [y1, y2, y3])) (upd H' T (.tup [y1, y2, y3])) := .new s hT
                    exact ⟨_, e, .tup (SqT.of upd_same) (.cons (dy1.le (l.trans (e.le s))) (.cons (dy2.le (l.trans (e.le s))) (.cons (dy3.le (l.trans (e.le s))) .nil)))⟩⟩
end
end DL

set_option Elab.async false
set_option linter.all false
set_option maxRecDepth 100000
set_option maxHeartbeats 4000000
/-! DMA: for x in a dict that is a datum. -/
namespace DL
open PySem PySem.Spec PyProof.Rows L2
def kD : Key → D
  | .inl i => .int i
  | .inr x => .str x
theorem kD_dt {K : PySem.W.Frag} {mg : Str → Option Value} {F : Hp} (k : Key) : Dt K mg F (kV k) (kD k) := by
  cases k with
  | inl i => exact .int i
  | inr x => exact .str x
def itemsKd : D → M (List D)
  | .dct kds => M.ret (kds.map fun p => kD p.1)
  | _ => M.no
def itemsK (d : D) : M (List D) := (itemsA d).alt (itemsKd d)
section
variable {X : Cx} {c : Fc} {F H : Hp} {σ : L2.St} {ρ : Sls} {tg a b e : Expr} {fa fb fe : M D} {fs : M (List D)} {pos p : Pos}
theorem di_keys {tg : Expr} (ha : DE X c a fa) : DI X c tg a (fa.bind itemsKd) :=
  PIw (pi_keys ha) fun σ H Q ⟨F, ρ, rr, h⟩ => ⟨F, ρ, rr, (PIt.bind h).mono (.refl _) fun v H1 ⟨F1, ρ1, d, r1, l1, t1, h1⟩ => by
    cases t1 with
    | @dct a od kvs kds e k t =>
      have hlen : kvs.length = kds.length := by
        have := congrArg List.length k
        rwa [List.length_map, List.length_map] at this
      refine ⟨a, od, rfl, .inl ⟨kvs, r1.sub _ _ e, h1 _ F1 H1 r1 (.refl _) ⟨fun i F' H' l s hi => ⟨s _ _ (l _ _ e), ?_⟩, fun i d F' H' l s hi => ?_⟩⟩⟩
      · rw [List.length_map] at hi; rw [hlen]; exact hi
      · rw [List.getElem?_map] at hi
        cases hk : kds[i]? with
        | none => rw [hk] at hi; cases hi
        | some q =>
          rw [hk] at hi
          cases hi
          have hil : i < kvs.length := by rw [hlen]; exact (List.getElem?_eq_some_iff.mp hk).1
          refine ⟨⟨s _ _ (l _ _ e), hil⟩, fun x H2 ⟨eH, k2, v2, hv, ex⟩ => ?_⟩
          subst eH ex
          refine ⟨F', .refl s, ?_⟩
          have e1 : (kvs.map (·.1))[i]? = some k2 := by rw [List.getElem?_map, hv]; rfl
          have e2 : (kds.map (·.1))[i]? = some q.1 := by rw [List.getElem?_map, hk]; rfl
          rw [k, e2] at e1
          cases e1
          exact kD_dt _
    | _ => exact False.elim h1⟩
theorem di_anyK {tg : Expr} (fx : Fit X c) (ha : DE X c a fa) : DI X c tg a (fa.bind itemsK) :=
  (di_alt (di_any fx ha) (di_keys ha)).less bind_alt
end
end DL

set_option Elab.async false
set_option linter.all false
set_option maxRecDepth 100000
set_option maxHeartbeats 4000000
/-! DMB: a, *b = a list; text.split. -/
namespace DL
open PySem PySem.Spec PyProof.Rows L2
section
variable {prog : Program} {w : World} {A : Around} {E : Value → Shared → Prop} {s : Shared}
theorem unpack_starL {l : Addr} {items : Array Value} {i : Nat} {Q : List Value → Shared → Prop} (hl : s.heap.IsList l items) (hh : A.handled = none) (hi : i ≤ items.size) (hz : items.size ≤ 16384)
    (h : ∀ (h' : Heap) (tk : Nat), (∀ b o, s.heap.get? b = some o → h'.get? b = some o) → Q (items.toList.take i ++ [.ref h'.objs.size]) { s with heap := h'.push { cls := .type "list", data := .seq (items.toList.drop i).toArray }, toks := tk }) : wpAny (model prog w) A (unpackItems (.ref l) (i + 1) (some i)) Q E s := by
  have hlt : l ≠ s.heap.objs.size := by obtain ⟨o, ho, _⟩ := hl; exact Nat.ne_of_lt (Heap.lt_size ho)
  unfold unpackItems
  refine wpAny_bind ?_
  unfold notIterableAtAll
  refine wpAny_bind (wpAny_specialOf hl.typeIs slot_list_iter.lookup ?_)
  refine wpAny_pure ?_
  simp only [Bool.false_eq_true, if_false]
  refine wpAny_bind (wpAny_holding (wpAny_pyIter_list hl ?_))
  refine wpAny_bind (wpAny_holding (PySem.W.kun_draw hlt i 0 _ _ ⟨_, Heap.get?_push_size _ rfl, rfl, rfl⟩ (hl.push _) (by omega) fun h₁ hit₁ hs₁ => ?_))
  have hl₁ : h₁.IsList l items := (hl.push _).extBut hs₁.extBut hlt
  rw [Nat.zero_add] at hit₁
  have hit₁' := hit₁
  obtain ⟨oi, hoi, _⟩ := hit₁'
  have hl₁' := hl₁
  obtain ⟨ol, hol, _⟩ := hl₁'
  rw [List.drop_zero]
  have hfl : (items.toList.take i).length = i := by rw [List.length_take, Array.length_toList]; omega
  rw [if_neg (show ¬ ((items.toList.take i).length < i) by rw [hfl]; omega)]
  refine wpAny_bind (wpAny_holding (PySem.W.kun_collect (s := { s with heap := h₁ }) (T := "list_iterator") (.inr (.inr (.inl rfl))) (Walks.list (A := A.in1) hh s.heap.objs.size l hlt items) (fun j u st => st.1.typeIs) (k := i) (by omega) ⟨hit₁, hl₁⟩ (Heap.lt_size hoi) (Heap.lt_size hol) (fun h₂ tk hk => ?_) (by rw [sizeLine_eq]; omega)))
  have hrl : (items.toList.drop i).length = items.size - i := by rw [List.length_drop, Array.length_toList]
  have hmid : (items.toList.drop i).length - (i + 1 - 1 - i) = (items.toList.drop i).length := by omega
  show wpAny _ _ (if (items.toList.drop i).length < i + 1 - 1 - i then _ else _) _ _ _
  rw [if_neg (by omega)]
  show wpAny _ _ (newList ((items.toList.drop i).take ((items.toList.drop i).length - (i + 1 - 1 - i))) >>= fun d => pure (items.toList.take i ++ [d] ++ (items.toList.drop i).drop ((items.toList.drop i).length - (i + 1 - 1 - i)))) _ _ _
  rw [hmid, List.take_length, List.drop_length]
  have he : ∀ b o, s.heap.get? b = some o → h₂.get? b = some o := fun b o e => by
    have hb : b ≠ s.heap.objs.size := Nat.ne_of_lt (Heap.lt_size e)
    exact hk b o hb (hs₁.extBut b o hb (Heap.get?_push_of_some _ e))
  refine wpAny_bind (wpAny_newList (wpAny_pure ?_) (by rw [hrl, sizeLine_eq]; omega))
  rw [List.append_nil]
  exact h h₂ tk he
end
def gStar (K : PySem.W.Frag) (i : Nat) (t : TGs) : TG := fun v σ H Q => ∃ a xs, v = .ref a ∧ SqL K H a xs ∧ i ≤ xs.length ∧ xs.length ≤ 16384 ∧ ∀ p, H p = none → t (xs.take i ++ [.ref p]) σ (upd H p (.lst (xs.drop i))) Q
theorem vals_take {vs : List V} {us : List Value} (h : Vals vs us) (n : Nat) : Vals (vs.take n) (us.take n) := by
  induction h generalizing n with
  | nil => rw [List.take_nil, List.take_nil]; exact .nil
  | cons r t ih =>
    cases n with
    | zero => exact .nil
    | succ n => exact .cons r (ih n)
theorem vals_drop {vs : List V} {us : List Value} (h : Vals vs us) (n : Nat) : Vals (vs.drop n) (us.drop n) := by
  induction h generalizing n with
  | nil => rw [List.drop_nil, List.drop_nil]; exact .nil
  | cons r t ih =>
    cases n with
    | zero => exact .cons r t
    | succ n => exact ih n
section
variable {X : Cx} {pos : Pos}
theorem pg_star {es : List Expr} {k i : Nat} {t : TGs} (hc : X.calm = true) (h : PGs X es t) (hn : (assignEach es X.env).length = i + 1 := by rfl) (hst : (assignEach es X.env).findIdx? (·.1) = some i := by rfl) : PG X (.Tuple es k pos) (gStar X.K i t) := by
  refine ⟨fun pins s σ H v u Q I r hw => ?_⟩
  obtain ⟨a, xs, e1, hq, hl, hz, hw⟩ := hw
  subst e1
  cases r
  obtain ⟨its, rv, p, hz2⟩ := I.list hq
  have hlen := rv.length
  rw [assign_Tuple]
  refine wpAny_bind (wpAny_standAt ?_)
  unfold unpack
  rw [hn, hst]
  refine wpAny_bind (wpAny_holding (unpack_starL p.isList (I.ok.hd hc) (by rw [List.size_toArray]; omega) (by rw [List.size_toArray]; omega) fun h' tk hk => ?_))
  have I1 : Inv X pins σ H { s with heap := h', toks := tk } := I.kept hk
  have I2 : Inv X pins σ (upd H h'.objs.size (.lst (xs.drop i))) { s with heap := h'.push { cls := .type "list", data := .seq (its.toArray.toList.drop i).toArray }, toks := tk } :=
    I1.laid (t' := tk) (o := .lst (xs.drop i)) (fun b ob q => Heap.get?_push_of_some _ q) (Nat.le_refl _) ⟨by rw [List.length_drop]; omega, _, 0, vals_drop rv i, Heap.get?_push_size _ rfl⟩
  exact h.run pins _ σ _ _ _ Q I2 ((vals_take rv i).append (.cons (show RelV (.ref h'.objs.size) (.ref h'.objs.size) from rfl) .nil)) (hw _ (I1.hok.fresh (Nat.le_refl _)))
theorem pgs_starN {e : Expr} {p : Pos} {es : List Expr} {t : TG} {u : TGs} (h1 : PG X e t) (h2 : PGs X es u)
    (hs : (assignEach (.Starred e p :: es) X.env).map (·.2) = assign e X.env :: (assignEach es X.env).map (·.2) := by rfl) : PGs X (.Starred e p :: es) (gCons t u) := by
  refine ⟨fun pins s σ H vs us Q I r h => ?_⟩
  obtain ⟨v, vr, e1, h⟩ := h
  subst e1
  cases r with
  | cons r rr =>
    rw [hs]
    refine assignInOrder_cons (thn (h1.run pins s σ H _ _ _ I r h) fun _ s1 ⟨σ1, H1, I1, q1⟩ => ?_)
    exact h2.run pins s1 σ1 H1 _ _ Q I1 rr q1
end
section
variable {X : Cx} {c : Fc} {F H : Hp} {σ : L2.St} {ρ : Sls} {a b e : Expr} {fa fb fe : M D} {fs : M (List D)} {pos p : Pos}
/-- x, *y = a list -/
def M.star (i j : Nat) (d : D) : M Out := fun ρ => match d with
  | .lst (x :: xs) | .rol (x :: xs) => if xs.length < 16384 then .ok .nx ((ρ.set i (.im x)).set j (.im (.lst xs))) else .no
  | _ => .no
theorem ds_star {i j : Nat} {x y : Str} {px py ps pt : Pos} {kt : Nat} (fx : Fit X c) (hc : X.calm = true) (hN : X.N.Nodup) (hi : X.N[i]? = some x) (hj : X.N[j]? = some y) (hij : i ≠ j) (hx : Loc X.env.scope x) (hy : Loc X.env.scope y)
    (hfx : X.fn x = true ∨ X.env.scope.names.lookup x = some .local := by first | exact .inl rfl | exact .inr rfl | assumption) (hfy : X.fn y = true ∨ X.env.scope.names.lookup y = some .local := by first | exact .inl rfl | exact .inr rfl | assumption) (he : DE X c e fe)
    (hs : swapsWithSole [.Tuple [.Name x px, .Starred (.Name y py) ps] kt pt] e pos.line X.env = pure false := by rfl) (hw : swappedStores [.Tuple [.Name x px, .Starred (.Name y py) ps] kt pt] e X.env = pure none := by rfl) :
    DS X c (.Assign [.Tuple [.Name x px, .Starred (.Name y py) ps] kt pt] e pos) (fe.bind (M.star i j)) :=
  PSw (ps_asg he (pg_star (i := 1) hc (pgs_cons (pg_name hN hi hx hfx) (pgs_starN (pg_name hN hj hy hfy) pgs_nil))) hs hw rfl) fun En σ H ⟨F, ρ, r, h⟩ =>
  ⟨F, ρ, r, (Sst.bind (σ := σ) h).mono (.refl _) fun v H1 ⟨F1, ρ1, d, r1, l1, t1, h1⟩ => by
    rw [fx.k]
    have key : ∀ {a : Addr} {v : V} {vs : List V} {d : D} {ds : List D}, SqL c.K H1 a (v :: vs) → c.Dt F1 v d → c.Dts F1 vs ds → (∀ σ' F' H', R c F' H' σ' ((ρ1.set i (.im d)).set j (.im (.lst ds))) → Le F1 F' → En.nx σ' H') → ds.length < 16384 → gStar c.K 1 (gCons (gName i) (gCons (gName j) gNil)) (.ref a) σ H1 En.nx := fun {a v vs d ds} q td tds h2 hlt => by
      refine ⟨a, v :: vs, rfl, q, Nat.succ_le_succ (Nat.zero_le _), by rw [List.length_cons, tds.length]; omega, fun p hp => ?_⟩
      have e1 : Ext c.T F1 H1 (upd F1 p (.lst vs)) (upd H1 p (.lst vs)) := .new r1.sub hp
      have l := e1.le r1.sub
      have r2 := r1.ext e1
      have r3 := r2.setIm (i := i) (td.le l)
      have dt : c.Dt (upd F1 p (.lst vs)) (.ref p) (.lst ds) := .lst upd_same (tds.le l)
      have r4 := r3.setIm (i := j) dt
      exact ⟨v, [.ref p], rfl, .ref p, [], rfl, rfl, h2 _ _ _ r4 l⟩
    unfold M.star at h1
    cases t1 with
    | @lst a xs ds e t =>
      cases t with
      | nil => exact False.elim h1
      | @cons v vs d ds td tds =>
        dsimp only at h1
        by_cases hlt : ds.length < 16384
        · rw [if_pos hlt] at h1; exact key (r1.sub.sqL e) td tds h1 hlt
        · rw [if_neg hlt] at h1; exact False.elim h1
    | @rol a xs ds e t =>
      cases t with
      | nil => exact False.elim h1
      | @cons v vs d ds td tds =>
        dsimp only at h1
        by_cases hlt : ds.length < 16384
        · rw [if_pos hlt] at h1; exact key (SqL.le r1.sub e) td tds h1 hlt
        · rw [if_neg hlt] at h1; exact False.elim h1
    | _ => exact False.elim h1⟩
end
end DL

set_option Elab.async false
set_option linter.all false
set_option maxRecDepth 100000
set_option maxHeartbeats 4000000
/-! DMC: text.split; class methods, keyword calls, defs with *args by their facts. -/
namespace DL
open PySem PySem.Spec PyProof.Rows L2
section
variable {X : Cx} {c : Fc} {F H : Hp} {σ : L2.St} {ρ : Sls} {a b e : Expr} {es : List Expr} {fa fb fe : M D} {fs : M (List D)} {pos p apos : Pos} {x cn m : Str} {T : List (Addr × Str)} {i j k n : Nat} {kws : List Keyword} {ks : List Str} {π : List Nat}
def gSplit (d : D) (ds : List D) : M D := match d, ds with
  | .str a, [.str b] => if (b.length == 0) = false ∧ a.length + 2 ≤ sizeLine then M.ret (.lst ((Txt.split a b).map .str)) else M.no
  | _, _ => M.no
theorem strs_dts {K : PySem.W.Frag} {mg : Str → Option Value} (F : Hp) (ys : List Str) : Dts K mg F (ys.map V.str) (ys.map D.str) := by
  induction ys with
  | nil => exact .nil
  | cons y ys ih => exact .cons (.str y) ih
theorem de_split (fx : Fit X c) (ho : DE X c a fa) (ha : DA X c [b] fs) (hbase : attributeBase a "split" X.env (eval a X.env) = eval a X.env := by rfl)
    (hfew : ((backTo pos (starEach [b] X.env)).all (fun x => !x.1) && (backToKw pos (keywordEach [] X.env)).all (fun x => x.1.isSome)
      && decide ([b].length + ([] : List Keyword).length + (if ([] : List Keyword).isEmpty then 0 else 1) < 30)) = true := by rfl)
    (hline : (apos.endLine == pos.line) = true := by rfl) (hs : starEach [b] X.env = (false, eval b X.env) :: starEach [] X.env := by rfl) (hplain : (backTo pos (starEach [] X.env)).any (·.1) = false := by rfl) :
    DE X c (.Call (.Attribute a "split" apos) [b] [] pos) (M.meth fa fs isS gSplit) :=
  de_meth PySem.F.plainAttrs_str PySem.F.slot_str_split PySem.F.type_str_split mt_split ⟨isS_ty, fun F H σ ρ x xs d ds Q rr t ts z h => by
    cases t with
    | str s =>
      rcases one_of ts with ⟨v, d, rfl, rfl, t⟩ | rfl | ⟨d1, _, _, rfl⟩
      · cases t with
        | str y =>
          have h : Pst c σ F ((if (y.length == 0) = false ∧ s.length + 2 ≤ sizeLine then M.ret (D.lst ((Txt.split s y).map .str)) else M.no) ρ) Q := h
          by_cases z : (y.length == 0) = false ∧ s.length + 2 ≤ sizeLine
          · rw [if_pos z] at h
            exact ⟨s, y, rfl, rfl, z.1, z.2, fun p hp => h.newLst rr (strs_dts F _) hp⟩
          · rw [if_neg z] at h; exact False.elim h
        | _ => exact False.elim h
      · exact False.elim h
      · cases d1 <;> exact False.elim h
    | _ => exact False.elim h⟩ ho ha hbase hfew hline hs hplain
end
/-- a class method m of the class cn -/
structure CmB (P : Program) (w : World) (K : PySem.W.Frag) (mg : Str → Option Value) (base : Heap) (T : List (Addr × Str)) (cn m : Str) (k n : Nat) (fn : List D → Res D) : Prop where
  ex : ∃ C mc pa g fd ps, mg cn = some (.ref C) ∧ ClX.CRead K C mc ∧ ClX.CMet K C mc m pa g ∧ FnOk P w K mg base (L2.CX P w) k g fd ps (spD K mg T n fn) ∧ Binds K fd ps []
/-- a def called by keywords alone, ks as written, π their places -/
structure CalK (P : Program) (w : World) (K : PySem.W.Frag) (mg : Str → Option Value) (base : Heap) (T : List (Addr × Str)) (x : Str) (ks : List Str) (π : List Nat) (k n : Nat) (fn : List D → Res D) : Prop where
  ex : ∃ f fd ps, mg x = some (.ref f) ∧ FnOk P w K mg base (L2.CX P w) k f fd ps (spD K mg T n fn) ∧ PySem.W.keepIn K (.ref f) = true ∧ KBn K fd ps 0 ks (fun us ws => us ++ pick π ws) (fun vs zs => vs ++ pick π zs)
/-- the class cn made by keywords alone -/
structure MkKB (P : Program) (w : World) (K : PySem.W.Frag) (mg : Str → Option Value) (base : Heap) (T : List (Addr × Str)) (cn : Str) (ks : List Str) (π : List Nat) (k n : Nat) (fn : D → List D → Res (D × D)) : Prop where
  ex : ∃ C fI fd ps, mg cn = some (.ref C) ∧ Mk K C fI ∧ FnOk P w K mg base (L2.CX P w) k fI fd ps (spB K mg T n fn) ∧ KBn K fd ps 1 ks (fun us ws => us ++ pick π ws) (fun vs zs => vs ++ pick π zs)
section
variable {X : Cx} {c : Fc} {F H : Hp} {σ : L2.St} {ρ : Sls} {a b e : Expr} {es : List Expr} {fa fb fe : M D} {fs : M (List D)} {pos p apos : Pos} {x cn m : Str} {T : List (Addr × Str)} {i j k n : Nat} {kws : List Keyword} {ks : List Str} {π : List Nat}
theorem de_cmethC {fn : List D → Res D} (pl : Sem Bool) (fx : Fit X c) (hT : c.T = T) (h : CmB X.prog X.w X.K X.mg X.base T cn m k n fn) (hr : Room j X.A) (hj : k ≤ j) (hg : Gl X cn) (ha : DA X c (a :: es) fs)
    (hdb : (cn == ("__debug__" : Str)) = false := by decide) (hst : starEach (a :: es) X.env = (false, eval a X.env) :: starEach es X.env := by rfl) (hpl : (backTo pos (starEach es X.env)).any (·.1) = false := by rfl)
    (ht : eval (.Call (.Attribute (.Name cn p) m apos) (a :: es) [] pos) X.env = (do
      let ov ← eval (.Name cn p) X.env
      standAt apos.atName
      let (f, first) ← holding [ov] (getMethod ov m pl)
      callWith pos f first (backTo pos (starEach (a :: es) X.env)) (backToKw pos (keywordEach [] X.env))) := by rfl) :
    DE X c (.Call (.Attribute (.Name cn p) m apos) (a :: es) [] pos) (fs.bind fun ds => M.call n fn (.cl cn :: ds)) := by
  subst hT
  obtain ⟨C, mc, pa, g, fd, ps, hm, r, cm, Fn, hb⟩ := h.ex
  exact de_cmeth fx hg hm r cm Fn (hr.mono hj) hb ha hdb hst hpl ht
theorem de_callKC {fn : List D → Res D} (fx : Fit X c) (hT : c.T = T) (h : CalK X.prog X.w X.K X.mg X.base T x ks π k n fn) (hr : Room j X.A) (hj : k ≤ j) (hg : Gl X x) (ha : DK X c kws fs)
    (hall : (backToKw pos (keywordEach kws X.env)).all (·.1.isSome) = true := by rfl) (hks : (backToKw pos (keywordEach kws X.env)).filterMap (·.1) = ks := by rfl) (hdb : (x == ("__debug__" : Str)) = false := by decide)
    (hpl : ((backTo pos (starEach [] X.env)).any (·.1) || (backToKw pos (keywordEach kws X.env)).any (·.1.isNone)) = false := by rfl) :
    DE X c (.Call (.Name x p) [] kws pos) (fs.bind (M.callK n ks.length π fn)) := by
  subst hT
  obtain ⟨f, fd, ps, hm, Fn, hk, hb⟩ := h.ex
  exact de_callKA fx Fn (hr.mono hj) hg hm hk hb ha hall hks hdb hpl
theorem de_mkKC {fn : D → List D → Res (D × D)} (fx : Fit X c) (hT : c.T = T) (h : MkKB X.prog X.w X.K X.mg X.base T cn ks π k n fn) (hr : Room j X.A) (hj : k + 1 ≤ j) (hg : Gl X cn) (ha : DK X c kws fs)
    (hall : (backToKw pos (keywordEach kws X.env)).all (·.1.isSome) = true := by rfl) (hks : (backToKw pos (keywordEach kws X.env)).filterMap (·.1) = ks := by rfl) (hdb : (cn == ("__debug__" : Str)) = false := by decide)
    (hpl : ((backTo pos (starEach [] X.env)).any (·.1) || (backToKw pos (keywordEach kws X.env)).any (·.1.isNone)) = false := by rfl) :
    DE X c (.Call (.Name cn p) [] kws pos) (M.mkK n ks.length π cn fn fs) := by
  subst hT
  obtain ⟨C, fI, fd, ps, hm, mk, Fn, hb⟩ := h.ex
  exact de_mkK fx mk Fn (hr.mono hj) hg hm hb ha hall hks hdb hpl
end

/-! ### from facts -/
/-- how keywords alone find the parameters -/
structure KwB (K : PySem.W.Frag) (mg : Str → Option Value) (x qual : Str) (st : Stmt) (ps ks : List Str) (π : List Nat) : Prop where
  ex : ∃ f fd, mg x = some (.ref f) ∧ Fun K x qual st f fd ∧ ∀ ws : List Value, ws.length = ks.length → bindArgs fd ⟨[], ks.zip ws⟩ = pure (ps.zip (pick π ws))
/-- a def with *pv -/
structure DfR (K : PySem.W.Frag) (mg : Str → Option Value) (x qual : Str) (st : Stmt) (ps : List Str) (pv : Str) : Prop where
  ex : ∃ f oc od kV doc pm an cdv ct osl, mg x = some (.ref f) ∧ K.lookup f = some ⟨oc, od, .func (PySem.W.fnOf x qual (defArgs st) (defBody st) (defScope st) .none kV doc pm an cdv ct), osl⟩ ∧ PySem.W.codeIn K cdv qual = true ∧ PySem.W.keepIn K (.ref f) = true ∧
    ∀ us rest : List Value, us.length = ps.length → bindArgs (PySem.W.fnOf x qual (defArgs st) (defBody st) (defScope st) .none kV doc pm an cdv ct) ⟨us ++ rest, []⟩ = (newTuple rest >>= fun t => pure (ps.zip us ++ [(pv, t)]))
section
variable {P : Program} {w : World} {K : PySem.W.Frag} {mg : Str → Option Value} {base : Heap} {T : List (Addr × Str)} {x qual pv : Str} {st : Stmt} {f : Addr} {N ps ks : List Str} {π : List Nat} {k : Nat} {g : M Out} {oc : Value} {od an : Option Addr} {osl : Array (Option Value)} {kV doc pm cdv ct : Value}
theorem kw_of (hm : mg x = some (.ref f)) (l : K.lookup f = some ⟨oc, od, .func (PySem.W.fnOf x qual (defArgs st) (defBody st) (defScope st) .none kV doc pm an cdv ct), osl⟩) (c : PySem.W.codeIn K cdv qual = true) (k : PySem.W.keepIn K (.ref f) = true)
    (hbd : ∀ (kV doc pm : Value) (an : Option Addr) (cdv ct : Value) (ws : List Value), ws.length = ks.length → bindArgs (PySem.W.fnOf x qual (defArgs st) (defBody st) (defScope st) .none kV doc pm an cdv ct) ⟨[], ks.zip ws⟩ = pure (ps.zip (pick π ws))) : KwB K mg x qual st ps ks π :=
  ⟨f, _, hm, fun_mk l c k, hbd kV doc pm an cdv ct⟩
theorem dfr_of (hm : mg x = some (.ref f)) (l : K.lookup f = some ⟨oc, od, .func (PySem.W.fnOf x qual (defArgs st) (defBody st) (defScope st) .none kV doc pm an cdv ct), osl⟩) (c : PySem.W.codeIn K cdv qual = true) (k : PySem.W.keepIn K (.ref f) = true)
    (hbd : ∀ (kV doc pm : Value) (an : Option Addr) (cdv ct : Value) (us rest : List Value), us.length = ps.length → bindArgs (PySem.W.fnOf x qual (defArgs st) (defBody st) (defScope st) .none kV doc pm an cdv ct) ⟨us ++ rest, []⟩ = (newTuple rest >>= fun t => pure (ps.zip us ++ [(pv, t)]))) : DfR K mg x qual st ps pv :=
  ⟨f, oc, od, kV, doc, pm, an, cdv, ct, osl, hm, l, c, k, hbd kV doc pm an cdv ct⟩
theorem calK_of (d : KwB K mg x qual st ps ks π) (S : FnScope N ps (defScope st))
    (hbody : ∀ (f : Addr) (cdv : Value) (A : Around) (outer : List Env) (s : Shared) (H : Hp) (E : XK) (c : Fc), c.K = K → c.mg = mg → c.T = T → Fit (cxOf (L2.CX P w) P w K mg base N qual (defScope st) f cdv A outer s H E) c → Room k (A.deeper (envOfC qual (defScope st) s.heap.objs.size f cdv)) →
      DSs (cxOf (L2.CX P w) P w K mg base N qual (defScope st) f cdv A outer s H E) c (defBody st) g) :
    CalK P w K mg base T x ks π (k + 1) ps.length fun ds => resD (g (slots N.length (ds.map .im))) := by
  obtain ⟨f, fd, hm, F, hb⟩ := d.ex
  exact ⟨f, fd, ps, hm, fn_spD F S fun cdv A ou s H E c => hbody f cdv A ou s H E c, F.kp, kbn_of 0 fun us ws l1 l2 => by
    match us, l1 with
    | [], _ => exact hb ws l2⟩
theorem calR_of (d : DfR K mg x qual st ps pv) (S : FnScope N (ps ++ [pv]) (defScope st))
    (hbody : ∀ (f : Addr) (cdv : Value) (A : Around) (outer : List Env) (s : Shared) (H : Hp) (E : XK) (c : Fc), c.K = K → c.mg = mg → c.T = T → Fit (cxOf (L2.CX P w) P w K mg base N qual (defScope st) f cdv A outer s H E) c → Room k (A.deeper (envOfC qual (defScope st) s.heap.objs.size f cdv)) →
      DSs (cxOf (L2.CX P w) P w K mg base N qual (defScope st) f cdv A outer s H E) c (defBody st) g) :
    CalR P w K mg base T x (k + 1) ps.length fun ds => resD (g (slots N.length ((packD ps.length ds).map .im))) := by
  obtain ⟨f, oc, od, kV, doc, pm, an, cdv, ct, osl, hm, l, hc, hk, hb⟩ := d.ex
  exact ⟨f, hm, fnR_star l hc S hb fun cdv A ou s H E c => hbody f cdv A ou s H E c, hk⟩
end
end DL

set_option Elab.async false
set_option linter.all false
set_option maxRecDepth 100000
set_option maxHeartbeats 4000000
/-! DMD: // by great divisors; an own list by list(..). -/
namespace DL
open PySem PySem.Spec PyProof.Rows L2
section
variable {X : Cx} {c : Fc} {F H : Hp} {σ : L2.St} {ρ : Sls} {a b e : Expr} {es : List Expr} {fa fb fe : M D} {fs : M (List D)} {pos p : Pos} {x : Str} {i : Nat}
def gDivW := gInt (fun _ j => decide (0 < j) && decide (j.natAbs.log2 < 9000)) fun i j => .int (i / j)
theorem de_divW (ha : DE X c a fa) (hb : DE X c b fb) : DE X c (.BinOp a .FloorDiv b pos) (M.two fa fb gDivW) := de_bin op_fdivW (opd_I (fun i j h => by
  obtain ⟨h1, h2⟩ := Bool.and_eq_true_iff.mp h; exact ⟨of_decide_eq_true h1, of_decide_eq_true h2⟩) fun _ _ _ => .int _) ha hb
/-- x = list(e), an own list -/
def M.ownLc (i : Nat) (ds : List D) : M Out := fun ρ => match ds with
  | [.lst es] | [.rol es] | [.tup es] => .ok .nx (ρ.set i (.ow (.lst es)))
  | _ => .no
theorem ds_ownLc {pos' p2 : Pos} (fx : Fit X c) (hgl : Gl X "list") (hm : X.mg "list" = none) (ha : DA X c [a] fs) (hN : X.N.Nodup) (hi : X.N[i]? = some x) (hx : Loc X.env.scope x) (hs : swapsWith (.Call (.Name "list" p) [a] [] p2) (some (.Name x pos')) pos.line X.env = pure false := by rfl)
    (hf : X.fn x = true ∨ X.env.scope.names.lookup x = some .local := by first | exact .inl rfl | exact .inr rfl | assumption) (he : starEach [a] X.env = (false, eval a X.env) :: starEach [] X.env := by rfl) (hpl : (backTo p2 (starEach [] X.env)).any (·.1) = false := by rfl) :
    DS X c (.Assign [.Name x pos'] (.Call (.Name "list" p) [a] [] p2) pos) (fs.bind (M.ownLc i)) :=
  PSw (ps_set hN hi hx (pe_callTy call_list_of hgl hm (by decide +kernel) ha (by decide) (by decide) he hpl) hs hf) fun E σ H ⟨F, ρ, r, h⟩ => ⟨F, ρ, r, (Sst.bindA (σ := σ) h).mono (.refl _) fun vs H1 ⟨F1, ρ1, ds, r1, l1, t1, h1⟩ => by
    rw [fx.k]
    unfold M.ownLc at h1
    cases t1 with
    | nil => exact False.elim h1
    | @cons v _ d _ t tt =>
      cases tt with
      | cons _ _ => exact False.elim (by cases d <;> exact h1)
      | nil =>
        cases t with
        | @lst a xs ds e t => exact ⟨a, xs, rfl, .inl (r1.sub.sqL e), fun q hq => h1 _ F1 _ (r1.mkOwn hq ⟨xs, upd_same, t⟩) (.refl _)⟩
        | @rol a xs ds e t => exact ⟨a, xs, rfl, .inl (SqL.le r1.sub e), fun q hq => h1 _ F1 _ (r1.mkOwn hq ⟨xs, upd_same, t⟩) (.refl _)⟩
        | @tup a xs ds e t => exact ⟨a, xs, rfl, .inr (SqT.le r1.sub e), fun q hq => h1 _ F1 _ (r1.mkOwn hq ⟨xs, upd_same, t⟩) (.refl _)⟩
        | _ => exact False.elim h1⟩
end
end DL

set_option Elab.async false
set_option linter.all false
set_option maxRecDepth 100000
set_option maxHeartbeats 4000000
/-! DME: defs that return a new list, handed on to a def that changes it: f(g(..)). -/
namespace DL
open PySem PySem.Spec PyProof.Rows L2
section
variable {P : Program} {w : World} {K : PySem.W.Frag} {mg : Str → Option Value} {base : Heap} {T : List (Addr × Str)}
theorem fnG_spB {x qual : Str} {st : Stmt} {f : Addr} {fd : FuncData} {N ps : List Str} {k : Nat} {g : M Out} (Fn : Fun K x qual st f fd) (S : FnScope N ps (defScope st))
    (hbody : ∀ (cdv : Value) (A : Around) (outer : List Env) (s : Shared) (H : Hp) (E : XK) (c : Fc), c.K = K → c.mg = mg → c.T = T → Fit (cxOf (L2.CX P w) P w K mg base N qual (defScope st) f cdv A outer s H E) c → Room k (A.deeper (envOfC qual (defScope st) s.heap.objs.size f cdv)) → A.guards = some [] →
      DSs (cxOf (L2.CX P w) P w K mg base N qual (defScope st) f cdv A outer s H E) c (defBody st) g) :
    FnG P w K mg base (k + 1) f fd ps (spB K mg T ps.length fun t ds => resB (g (slots N.length (.bo t :: ds.map .im)))) := by
  refine fnG_mk Fn S (fun vs H Q E ⟨F, p, t, ws, ds, ev, _, _, _, tt, hl, _⟩ => by rw [ev, List.length_cons, tt.length]; exact hl) fun cdv A outer s H vs Q E hr hgd ⟨F, p, t, ws, ds, ev, ⟨tb, ft, sub⟩, fp, ow, tt, hl, he⟩ => ?_
  subst ev
  have hp : H p ≠ none := by obtain ⟨o, eo⟩ := ow.there; rw [eo]; exact fun z => by cases z
  refine ⟨_, hbody cdv A outer s H E ⟨K, mg, T, H, F, some p, fun cls d _ H => E cls d H⟩ rfl rfl rfl ⟨rfl, rfl, takes_of rfl rfl rfl rfl, fun _ _ _ _ _ h => h⟩ hr hgd, F, slots N.length (.bo t :: ds.map .im), ?_, ?_⟩
  · refine ⟨sub, fun a o _ e _ => e, tb, ft, fun a e => e, fun a _ => rfl, fun q e => (by cases e; exact hp), slots_len (by rw [List.length_cons, List.length_cons, tt.length, List.length_map]) rfl, fun i => ?_, fun i d h1 => ?_, fun i j p d d' h1 _ _ _ => ?_⟩
    · cases i with
      | zero => exact ⟨p, rfl, fp, rfl, ow⟩
      | succ i =>
        have y := slots_get (c := ⟨K, mg, T, H, F, some p, fun cls d _ H => E cls d H⟩) (N := N.drop 1) (n := N.length - 1) tt H i
        have e1 : (L2.start N (.ref p :: ws))[i + 1]? = (L2.start (N.drop 1) ws)[i]? := by
          unfold L2.start
          rw [List.map_cons, List.cons_append, List.getElem?_cons_succ, List.length_cons, List.length_drop, Nat.sub_sub, Nat.add_comm 1]
        have e2 : (slots N.length (.bo t :: ds.map .im))[i + 1]? = (slots (N.length - 1) (ds.map .im))[i]? := by
          unfold slots
          rw [List.cons_append, List.getElem?_cons_succ, List.length_cons, Nat.sub_sub, Nat.add_comm 1]
        rw [e1, e2]
        exact y
    · cases i with
      | zero => rfl
      | succ i =>
        have e2 : (slots N.length (.bo t :: ds.map .im))[i + 1]? = (slots (N.length - 1) (ds.map .im))[i]? := by
          unfold slots
          rw [List.cons_append, List.getElem?_cons_succ, List.length_cons, Nat.sub_sub, Nat.add_comm 1]
        rw [e2] at h1
        exact (slots_nb h1).elim
    · cases i with
      | zero => cases h1
      | succ i =>
        have e2 : (slots N.length (.bo t :: ds.map .im))[i + 1]? = (slots (N.length - 1) (ds.map .im))[i]? := by
          unfold slots
          rw [List.cons_append, List.getElem?_cons_succ, List.length_cons, Nat.sub_sub, Nat.add_comm 1]
        rw [e2] at h1
        exact (slots_im h1).elim
  · have key : ∀ {σ' : L2.St} {F' H' : Hp} {ρ' : Sls}, R ⟨K, mg, T, H, F, some p, fun cls d _ H => E cls d H⟩ F' H' σ' ρ' → ExtB T p F H F' H' := fun r =>
      ⟨fun a o t n e => r.ent a o t e (fun z => n (by cases z; rfl)), fun _ => r.tab, r.dom, r.dom p hp, fun a e => r.frz a e, r.sub⟩
    have own : ∀ {σ' : L2.St} {F' H' : Hp} {t' : D} {ρ' : Sls}, R ⟨K, mg, T, H, F, some p, fun cls d _ H => E cls d H⟩ F' H' σ' (.bo t' :: ρ') → OwnOk K mg F' H' p t' := fun {σ' F' H' t' ρ'} r => by
      obtain ⟨q, _, _, e, o⟩ := r.sl 0
      have e' : some p = some q := e
      cases e'
      exact o
    have he : endB K mg T p F H (resB (g (slots N.length (.bo t :: ds.map .im)))) Q E := he
    generalize g (slots N.length (.bo t :: ds.map .im)) = r at he
    cases r with
    | ok o ρ' =>
      cases ρ' with
      | nil => cases o <;> exact he.elim
      | cons s ρ' =>
        cases s with
        | bo t' =>
          cases o with
          | nx => exact fun σ' F' H' r l => he .non F' H' (key r) (own r) .non
          | rt d => exact fun σ' v F' H' r l dt => he v F' H' (key r) (own r) dt
          | bk => exact he.elim
          | ct => exact he.elim
        | un => cases o <;> exact he.elim
        | im d => cases o <;> exact he.elim
        | ow d => cases o <;> exact he.elim
    | er kk fs ρ' => exact fun C dd σ' F' H' fv m r l e1 e2 e3 => he C dd F' H' fv m (key r) e1 e2 e3
    | no => exact he.elim
end
/-- a body that ends with a new list -/
def Nst (c : Fc) (F : Hp) (r : Ret (List D)) (E : Ends) : Prop := match r with
  | .ok ds ρ' => ∀ σ' a xs F' H', R c F' H' σ' ρ' → Le F F' → F' a = none → c.G a = none → H' a = some (.lst xs) → c.Dts F' xs ds → E.rt (.ref a) H'
  | _ => False
def tNst (c : Fc) (g : M (List D)) : TS := fun E σ H => ∃ F ρ, R c F H σ ρ ∧ Nst c F (g ρ) E
def DNs (X : Cx) (c : Fc) (body : List Stmt) (g : M (List D)) : Prop := PSs X body (tNst c g)
def M.seqN (m : M Out) (k : M (List D)) : M (List D) := fun ρ => match m ρ with
  | .ok .nx ρ' => k ρ'
  | _ => .no
section
variable {X : Cx} {c : Fc} {F F1 H : Hp} {σ : L2.St} {ρ : Sls} {es : List Expr} {fs : M (List D)} {pos p : Pos}
theorem Nst.mono {r : Ret (List D)} {E : Ends} (h : Nst c F r E) (l : Le F F1) : Nst c F1 r E := by
  cases r with
  | ok ds ρ' => exact fun σ' a xs F' H' r l2 => h σ' a xs F' H' r (l.trans l2)
  | er _ _ _ => exact h
  | no => exact h
theorem dns_cons {st : Stmt} {rest : List Stmt} {g : M Out} {k : M (List D)} (h1 : DS X c st g) (h2 : DNs X c rest k) : DNs X c (st :: rest) (M.seqN g k) :=
  PSsw (pss_cons h1 h2) fun E σ H ⟨F, ρ, r, h⟩ => by
    refine ⟨F, ρ, r, ?_⟩
    unfold M.seqN at h
    cases e : g ρ with
    | ok o ρ' =>
      rw [e] at h
      cases o with
      | nx => exact fun σ' F' H' r l => ⟨F', ρ', r, Nst.mono h l⟩
      | rt d => exact h.elim
      | bk => exact h.elim
      | ct => exact h.elim
    | er k fs ρ' => rw [e] at h; exact h.elim
    | no => rw [e] at h; exact h.elim
theorem Nst.bindA {m : M (List D)} {k : List D → M (List D)} {E : Ends} {σ : L2.St} (h : Nst c F ((m.bind k) ρ) E) : Psts c σ F (m ρ) fun v H1 => ∃ F1 ρ1 ds, R c F1 H1 σ ρ1 ∧ Le F F1 ∧ c.Dts F1 v ds ∧ Nst c F1 (k ds ρ1) E := by
  unfold M.bind at h
  cases e : m ρ with
  | ok d ρ' => rw [e] at h; exact fun v F' H' a b t => ⟨F', ρ', d, a, b, t, Nst.mono h b⟩
  | er c fs ρ' => rw [e] at h; exact h.elim
  | no => rw [e] at h; exact h
def M.retN (fs : M (List D)) : M (List D) := fs.bind fun ds ρ => if ds.length ≤ 16777216 then .ok ds ρ else .no
theorem dns_ret (ha : DA X c es fs) : DNs X c [.Return (some (.List es p)) pos] (M.retN fs) :=
  PSsw (pss_one (ps_ret (pe_lst ha))) fun E σ H ⟨F, ρ, rr, h⟩ => ⟨F, ρ, rr, (Nst.bindA (σ := σ) h).mono (.refl _) fun vs H1 ⟨F1, ρ1, ds, r1, l1, t1, h1⟩ => by
    by_cases z : ds.length ≤ 16777216
    · rw [if_pos z] at h1
      exact ⟨by rw [line_eq, t1.length]; exact z, fun q hq => h1 σ q vs F1 _ (r1.ext (.newO r1.sub hq)) (.refl _) (r1.fnone hq) (r1.gnone hq) upd_same t1⟩
    · rw [if_neg z] at h1; exact False.elim h1⟩
end
/-- .. and the promise -/
def endNw (K : PySem.W.Frag) (mg : Str → Option Value) (T : List (Addr × Str)) (F H : Hp) (r : Res (List D)) (Q : VK) : Prop := match r with
  | .ok ds => ∀ a xs F' H', Ext T F H F' H' → H a = none → F' a = none → H' a = some (.lst xs) → Dts K mg F' xs ds → Q (.ref a) H'
  | _ => False
def spN (K : PySem.W.Frag) (mg : Str → Option Value) (T : List (Addr × Str)) (n : Nat) (f : List D → Res (List D)) : Sp := fun vs H Q E =>
  ∃ F ds, (LamX.Tabs T H ∧ (∀ p ∈ T, F p.1 = none) ∧ Le F H) ∧ Dts K mg F vs ds ∧ ds.length = n ∧ endNw K mg T F H (f ds) Q
def resN : Ret (List D) → Res (List D)
  | .ok ds _ => .ok ds
  | _ => .no
section
variable {P : Program} {w : World} {K : PySem.W.Frag} {mg : Str → Option Value} {base : Heap} {T : List (Addr × Str)}
theorem fn_spN {x qual : Str} {st : Stmt} {f : Addr} {fd : FuncData} {N ps : List Str} {k : Nat} {g : M (List D)} (Fn : Fun K x qual st f fd) (S : FnScope N ps (defScope st))
    (hbody : ∀ (cdv : Value) (A : Around) (outer : List Env) (s : Shared) (H : Hp) (E : XK) (c : Fc), c.K = K → c.mg = mg → c.T = T → Fit (cxOf (L2.CX P w) P w K mg base N qual (defScope st) f cdv A outer s H E) c → Room k (A.deeper (envOfC qual (defScope st) s.heap.objs.size f cdv)) →
      DNs (cxOf (L2.CX P w) P w K mg base N qual (defScope st) f cdv A outer s H E) c (defBody st) g) :
    FnOk P w K mg base (L2.CX P w) (k + 1) f fd ps (spN K mg T ps.length fun ds => resN (g (slots N.length (ds.map .im)))) := by
  refine Fn.okX S (fun vs H Q E ⟨F, ds, _, t, hl, _⟩ => by rw [t.length]; exact hl) fun cdv A outer s H vs Q E hr ⟨F, ds, ⟨tb, ft, sub⟩, t, hl, he⟩ => ?_
  refine ⟨_, hbody cdv A outer s H E ⟨K, mg, T, H, F, none, fun cls d _ H => E cls d H⟩ rfl rfl rfl ⟨rfl, rfl, takes_of rfl rfl rfl rfl, fun _ _ _ _ _ h => h⟩ hr, F, slots N.length (ds.map .im), ?_, ?_⟩
  · exact ⟨sub, fun a o _ e _ => e, tb, ft, fun a e => e, fun a _ => rfl, fun _ e => (by cases e), slots_len (by rw [t.length, List.length_map]) rfl, fun i => slots_get t H i, fun i d h1 => (slots_nb h1).elim, fun i j p d d' h1 _ _ _ => (slots_im h1).elim⟩
  · have he : endNw K mg T F H (resN (g (slots N.length (ds.map .im)))) Q := he
    generalize g (slots N.length (ds.map .im)) = r at he
    cases r with
    | ok o ρ' => exact fun σ' a xs F' H' r l e1 e2 e3 e4 => he a xs F' H' ⟨fun a o n e => r.ent a o n e (by intro z; cases z), fun _ => r.tab, r.dom, fun a e => r.frz a e, r.sub⟩ e2 e1 e3 e4
    | er kk fs ρ' => exact he.elim
    | no => exact he.elim
/-- a new list may be changed: nothing of the caller's looks at it -/
theorem R.extN {c : Fc} {F H F' H' : Hp} {σ : L2.St} {ρ : Sls} {p : Addr} (r : R c F H σ ρ) (gp : c.G p = none) (np : ∀ (i : Nat) (d : D), (ρ[i]? = some (.ow d) ∨ ρ[i]? = some (.bo d)) → σ[i]? ≠ some (some (.ref p))) (e : ExtB c.T p F H F' H') : R c F' H' σ ρ := by
  have l : Le F F' := fun a u q => by rw [e.old a (by rw [r.sub a u q]; exact fun z => by cases z)]; exact q
  have keep : ∀ {q : Addr} {d : D}, q ≠ p → F q = none → OwnOk c.K c.mg F H q d → F' q = none ∧ OwnOk c.K c.mg F' H' q d := fun {q d} nq f0 ow => by
    obtain ⟨u, eu⟩ := ow.there
    exact ⟨by rw [e.old q (by rw [eu]; exact fun z => by cases z)]; exact f0, ow.le l fun u' eu' => e.h q u' (ow.noT r.tab) nq eu'⟩
  refine ⟨e.sub, fun a u nt q n => e.h a u nt (fun z => by rw [z, gp] at q; cases q) (r.ent a u nt q n), e.tab r.tab, fun q hq => by
      obtain ⟨ps, eq, _⟩ := r.tab q hq
      rw [e.old _ (some_ne eq)]; exact r.ft q hq, fun a g => e.dm a (r.dom a g), fun a g => by rw [e.old a (r.dom a g)]; exact r.frz a g, r.bor, r.len, fun j => ?_, r.one, r.own⟩
  have y := r.sl j
  have npj := np j
  revert y
  cases hs : ρ[j]? with
  | none => exact fun _ => True.intro
  | some s =>
    cases s with
    | un => exact fun _ => True.intro
    | im d => exact fun ⟨v, a1, a2⟩ => ⟨v, a1, a2.le l⟩
    | ow d =>
      rintro ⟨q, a1, a2, a3, a4⟩
      have nq : q ≠ p := fun z => npj d (.inl hs) (by rw [← z]; exact a1)
      obtain ⟨b1, b2⟩ := keep nq a2 a4
      exact ⟨q, a1, b1, a3, b2⟩
    | bo d =>
      rintro ⟨q, a1, a2, a3, a4⟩
      have nq : q ≠ p := fun z => npj d (.inr hs) (by rw [← z]; exact a1)
      obtain ⟨b1, b2⟩ := keep nq a2 a4
      exact ⟨q, a1, b1, a3, b2⟩
theorem R.newp {c : Fc} {F H : Hp} {σ : L2.St} {ρ : Sls} {p : Addr} (r : R c F H σ ρ) (hp : H p = none) (i : Nat) (d : D) (h : ρ[i]? = some (.ow d) ∨ ρ[i]? = some (.bo d)) : σ[i]? ≠ some (some (.ref p)) := fun z => by
  have y := r.sl i
  rcases h with h | h
  · rw [h] at y
    obtain ⟨q, a1, a2, a3, a4⟩ := y
    rw [z] at a1
    cases a1
    obtain ⟨u, eu⟩ := a4.there
    rw [hp] at eu; cases eu
  · rw [h] at y
    obtain ⟨q, a1, a2, a3, a4⟩ := y
    rw [z] at a1
    cases a1
    obtain ⟨u, eu⟩ := a4.there
    rw [hp] at eu; cases eu
end
structure CalN (P : Program) (w : World) (K : PySem.W.Frag) (mg : Str → Option Value) (base : Heap) (T : List (Addr × Str)) (x : Str) (k n : Nat) (fn : List D → Res (List D)) : Prop where
  ex : ∃ f fd ps, mg x = some (.ref f) ∧ FnOk P w K mg base (L2.CX P w) k f fd ps (spN K mg T n fn) ∧ PySem.W.keepIn K (.ref f) = true ∧ Binds K fd ps []
structure CalOG (P : Program) (w : World) (K : PySem.W.Frag) (mg : Str → Option Value) (base : Heap) (T : List (Addr × Str)) (x : Str) (k n : Nat) (fn : D → List D → Res (D × D)) : Prop where
  ex : ∃ f fd ps, mg x = some (.ref f) ∧ FnG P w K mg base k f fd ps (spB K mg T n fn) ∧ PySem.W.keepIn K (.ref f) = true ∧ Binds K fd ps []
def M.callNO (n : Nat) (fN : List D → Res (List D)) (fO : D → List D → Res (D × D)) (ds : List D) : M D := fun ρ => if ds.length = n then match fN ds with
  | .ok l => match fO (.lst l) [] with
    | .ok (d, _) => .ok d ρ
    | _ => .no
  | _ => .no
  else .no
section
variable {X : Cx} {c : Fc} {F H : Hp} {σ : L2.St} {ρ : Sls} {b : Expr} {es : List Expr} {fs : M (List D)} {pos pos2 p p2 : Pos} {x y : Str} {T : List (Addr × Str)} {j k k2 n : Nat}
theorem de_callNO {fN : List D → Res (List D)} {fO : D → List D → Res (D × D)} (fx : Fit X c) (hT : c.T = T) (hgd : X.A.guards = some []) (hN : CalN X.prog X.w X.K X.mg X.base T y k2 n fN) (hO : CalOG X.prog X.w X.K X.mg X.base T x k 1 fO) (hr : Room j X.A) (hj : k ≤ j) (hj2 : k2 ≤ j) (hgx : Gl X x) (hgy : Gl X y) (ha : DA X c (b :: es) fs)
    (hdb : (x == ("__debug__" : Str)) = false := by decide) (hdb2 : (y == ("__debug__" : Str)) = false := by decide) (he : starEach (b :: es) X.env = (false, eval b X.env) :: starEach es X.env := by rfl) (hpl : (backTo pos2 (starEach es X.env)).any (·.1) = false := by rfl)
    (he2 : starEach [.Call (.Name y p2) (b :: es) [] pos2] X.env = (false, eval (.Call (.Name y p2) (b :: es) [] pos2) X.env) :: starEach [] X.env := by rfl) (hpl2 : (backTo pos (starEach [] X.env)).any (·.1) = false := by rfl) :
    DE X c (.Call (.Name x p) [.Call (.Name y p2) (b :: es) [] pos2] [] pos) (fs.bind (M.callNO n fN fO)) := by
  subst hT
  obtain ⟨f, fd, ps, hm, FN, hk, hb⟩ := hN.ex
  obtain ⟨f2, fd2, ps2, hm2, FO, hk2, hb2⟩ := hO.ex
  refine PEw (pe_G FO (hr.mono hj) hgd hgx hm2 hk2 hb2 fx.tk (pa_cons (pe_callS FN (hr.mono hj2) hgy hm hk hb (fun σ => passAt fx.tk σ) ha hdb2 he hpl) pa_nil he2) hdb he2 hpl2) fun σ H Q ⟨F, ρ, rr, h⟩ => ?_
  refine ⟨F, ρ, rr, (Pst.bindA h).mono (.refl _) fun vs H1 ⟨F1, ρ1, ds, r1, l1, t1, h1⟩ => ?_⟩
  unfold M.callNO at h1
  by_cases z : ds.length = n
  · rw [if_pos z] at h1
    refine ⟨F1, ds, ⟨r1.tab, r1.ft, r1.sub⟩, by rw [fx.k, fx.mg]; exact t1, z, ?_⟩
    cases e1 : fN ds with
    | no => rw [e1] at h1; exact False.elim h1
    | er _ _ => rw [e1] at h1; exact False.elim h1
    | ok l =>
      rw [e1] at h1
      dsimp only at h1
      intro a xs F' H' ex ha1 ha2 ha3 ha4
      have r2 := r1.ext ex
      have ga : c.G a = none := by
        cases hg : c.G a with
        | none => rfl
        | some o => exact absurd ha1 (r1.dom a (by rw [hg]; exact fun z => by cases z))
      refine ⟨F', a, .lst l, [], [], rfl, ⟨r2.tab, r2.ft, r2.sub⟩, ha2, ⟨xs, ha3, ha4⟩, .nil, rfl, ?_⟩
      cases e2 : fO (.lst l) [] with
      | no => rw [e2] at h1; exact False.elim h1
      | er _ _ => rw [e2] at h1; exact False.elim h1
      | ok o =>
        obtain ⟨d, t'⟩ := o
        rw [e2] at h1
        intro v F2 H2 ex2 ow dv
        rw [fx.k, fx.mg] at dv
        have np : ∀ (i : Nat) (d : D), (ρ1[i]? = some (.ow d) ∨ ρ1[i]? = some (.bo d)) → σ[i]? ≠ some (some (.ref a)) := r1.newp ha1
        have r3 := r2.extN ga np ex2
        exact h1 v F2 H2 r3 (fun b o e => by
          have e2 := ex.le r1.sub b o e
          rw [ex2.old b (by rw [r2.sub b o e2]; exact fun z => by cases z)]; exact e2) dv
  · rw [if_neg z] at h1; exact False.elim h1
end
section
variable {P : Program} {w : World} {K : PySem.W.Frag} {mg : Str → Option Value} {base : Heap} {T : List (Addr × Str)} {x qual : Str} {st : Stmt} {N ps : List Str} {k : Nat}
theorem calN_of {g : M (List D)} (d : DfB K mg x qual st ps) (S : FnScope N ps (defScope st))
    (hbody : ∀ (f : Addr) (cdv : Value) (A : Around) (outer : List Env) (s : Shared) (H : Hp) (E : XK) (c : Fc), c.K = K → c.mg = mg → c.T = T → Fit (cxOf (L2.CX P w) P w K mg base N qual (defScope st) f cdv A outer s H E) c → Room k (A.deeper (envOfC qual (defScope st) s.heap.objs.size f cdv)) →
      DNs (cxOf (L2.CX P w) P w K mg base N qual (defScope st) f cdv A outer s H E) c (defBody st) g) :
    CalN P w K mg base T x (k + 1) ps.length fun ds => resN (g (slots N.length (ds.map .im))) := by
  obtain ⟨f, fd, hm, F, hb⟩ := d.ex
  exact ⟨f, fd, ps, hm, fn_spN F S fun cdv A ou s H E c => hbody f cdv A ou s H E c, F.kp, .all hb⟩
theorem calO_of {g : M Out} (d : DfB K mg x qual st ps) (S : FnScope N ps (defScope st))
    (hbody : ∀ (f : Addr) (cdv : Value) (A : Around) (outer : List Env) (s : Shared) (H : Hp) (E : XK) (c : Fc), c.K = K → c.mg = mg → c.T = T → Fit (cxOf (L2.CX P w) P w K mg base N qual (defScope st) f cdv A outer s H E) c → Room k (A.deeper (envOfC qual (defScope st) s.heap.objs.size f cdv)) →
      DSs (cxOf (L2.CX P w) P w K mg base N qual (defScope st) f cdv A outer s H E) c (defBody st) g) :
    CalO P w K mg base T x (k + 1) ps.length fun t ds => resB (g (slots N.length (.bo t :: ds.map .im))) := by
  obtain ⟨f, fd, hm, F, hb⟩ := d.ex
  exact ⟨f, fd, ps, hm, fn_spB F S fun cdv A ou s H E c => hbody f cdv A ou s H E c, F.kp, .all hb⟩
theorem calOG_of {g : M Out} (d : DfB K mg x qual st ps) (S : FnScope N ps (defScope st))
    (hbody : ∀ (f : Addr) (cdv : Value) (A : Around) (outer : List Env) (s : Shared) (H : Hp) (E : XK) (c : Fc), c.K = K → c.mg = mg → c.T = T → Fit (cxOf (L2.CX P w) P w K mg base N qual (defScope st) f cdv A outer s H E) c → A.guards = some [] → Room k (A.deeper (envOfC qual (defScope st) s.heap.objs.size f cdv)) →
      DSs (cxOf (L2.CX P w) P w K mg base N qual (defScope st) f cdv A outer s H E) c (defBody st) g) :
    CalOG P w K mg base T x (k + 1) ps.length fun t ds => resB (g (slots N.length (.bo t :: ds.map .im))) := by
  obtain ⟨f, fd, hm, F, hb⟩ := d.ex
  exact ⟨f, fd, ps, hm, fnG_spB F S fun cdv A ou s H E c h1 h2 h3 h4 h5 h6 => hbody f cdv A ou s H E c h1 h2 h3 h4 h6 h5, F.kp, .all hb⟩
end
end DL

set_option Elab.async false
set_option linter.all false
set_option maxRecDepth 100000
set_option maxHeartbeats 4000000
/-! DMF: tuple <= tuple, of texts. -/
namespace DL
open PySem PySem.Spec PyProof.Rows L2
def leSs : List Str → List Str → Bool
  | [], _ => true
  | _ :: _, [] => false
  | x :: xs, y :: ys => if x = y then leSs xs ys else !decide (y.cps.toList < x.cps.toList)
theorem lexAt_leSs (xs ys : List Str) : ∀ (k i : Nat), min xs.length ys.length - i = k → i ≤ min xs.length ys.length →
    Ob.lexAt (fun j => decide (xs.getD j Str.empty = ys.getD j Str.empty)) (fun j => !decide ((ys.getD j Str.empty).cps.toList < (xs.getD j Str.empty).cps.toList)) (decide (xs.length ≤ ys.length)) i k = leSs (xs.drop i) (ys.drop i)
  | 0, i, hk, hi => by
    rw [Ob.lexAt_zero]
    by_cases h : xs.length ≤ ys.length
    · have : xs.drop i = [] := List.drop_of_length_le (by omega)
      rw [this, decide_eq_true h]; rfl
    · have h2 : ys.drop i = [] := List.drop_of_length_le (by omega)
      have h3 : i < xs.length := by omega
      rw [h2, List.drop_eq_getElem_cons h3, decide_eq_false h]; rfl
  | k + 1, i, hk, hi => by
    have h1 : i < xs.length := by omega
    have h2 : i < ys.length := by omega
    rw [Ob.lexAt_succ, lexAt_leSs xs ys k (i + 1) (by omega) (by omega), List.drop_eq_getElem_cons h1, List.drop_eq_getElem_cons h2]
    have e1 : xs.getD i Str.empty = xs[i] := by rw [List.getD_eq_getElem?_getD, List.getElem?_eq_getElem h1]; rfl
    have e2 : ys.getD i Str.empty = ys[i] := by rw [List.getD_eq_getElem?_getD, List.getElem?_eq_getElem h2]; rfl
    rw [e1, e2]
    show _ = if xs[i] = ys[i] then leSs (xs.drop (i + 1)) (ys.drop (i + 1)) else !decide ((ys[i]).cps.toList < (xs[i]).cps.toList)
    by_cases z : xs[i] = ys[i]
    · rw [if_pos (decide_eq_true z), if_pos z]
    · rw [if_neg (by rw [decide_eq_false z]; exact Bool.false_ne_true), if_neg z]
theorem RcOp_le_str {A : Around} {s : Shared} (a b : Str) (t u : Tok) : Ob.RcOp .LtE A s (.str a t) (.str b u) (!decide (b.cps.toList < a.cps.toList)) := fun _ _ _ _ h => PySem.P.le_str h
def rLeTS (K : PySem.W.Frag) : R2 := fun x y H Q => ∃ (a b : Addr) (xs ys : List Str), x = .ref a ∧ y = .ref b ∧ SqT K H a (xs.map V.str) ∧ SqT K H b (ys.map V.str) ∧ Q (.bl (leSs xs ys)) H
theorem op_leTS {X : Cx} (hu : X.A.units < cLine) : OpR X (compareOp .LtE) (rLeTS X.K) := by
  intro pins s σ H x y v u Q I rx ry h
  obtain ⟨a, b, ns, ms, rfl, rfl, ha, hb, q⟩ := h
  cases rx
  cases ry
  obtain ⟨its, r1, p1, _⟩ := I.tuple ha
  obtain ⟨its2, r2, p2, _⟩ := I.tuple hb
  have i1 := Vals.strs r1
  have i2 := Vals.strs r2
  have e1 : its.toArray.size = ns.length := by rw [List.size_toArray, ← r1.length, List.length_map]
  have e2 : its2.toArray.size = ms.length := by rw [List.size_toArray, ← r2.length, List.length_map]
  have at1 : ∀ j (h1 : j < its.toArray.size), ∃ t, its.toArray[j] = .str (ns.getD j Str.empty) t := fun j h1 => _root_.SS.strs_at i1 _ _ (by simp at h1; simp [h1])
  have at2 : ∀ j (h1 : j < its2.toArray.size), ∃ t, its2.toArray[j] = .str (ms.getD j Str.empty) t := fun j h1 => _root_.SS.strs_at i2 _ _ (by simp at h1; simp [h1])
  have R := Ob.RcOp.tuples_le (A := X.A) (s := s) (e := fun j => decide (ns.getD j Str.empty = ms.getD j Str.empty)) (r := fun j => !decide ((ms.getD j Str.empty).cps.toList < (ns.getD j Str.empty).cps.toList)) p1 p2 hu (fun j h1 h2 => by
    obtain ⟨t, et⟩ := at1 j h1
    obtain ⟨t', et'⟩ := at2 j h2
    rw [et, et']
    have z : (ns.getD j Str.empty == ms.getD j Str.empty) = decide (ns.getD j Str.empty = ms.getD j Str.empty) := by
      by_cases q : ns.getD j Str.empty = ms.getD j Str.empty
      · rw [decide_eq_true q]; exact beq_iff_eq.mpr q
      · rw [decide_eq_false q]; exact beq_eq_false_iff_ne.mpr q
    rw [← z]
    exact SeqAt.EqAt.str_str _ _ _ _) (fun j h1 h2 _ => by
    obtain ⟨t, et⟩ := at1 j h1
    obtain ⟨t', et'⟩ := at2 j h2
    rw [et, et']
    exact RcOp_le_str _ _ _ _)
  rw [e1, e2, lexAt_leSs ns ms (min ns.length ms.length) 0 (Nat.sub_zero _) (Nat.zero_le _)] at R
  have z : wpAny (model X.prog X.w) X.A (compareOp .LtE (.ref a) (.ref b)) (EP X pins σ Q) X.xe s := R X.prog X.w X.xe (EP X pins σ Q) ⟨.bl _, H, I, rfl, q⟩
  exact z
def gLeT : D → D → M D
  | .tup ds, .tup es => match txts ds, txts es with
    | some xs, some ys => M.ret (D.bl (leSs xs ys))
    | _, _ => M.no
  | _, _ => M.no
def gLeA (d e : D) : M D := (gLe d e).alt (gLeT d e)
section
variable {X : Cx} {c : Fc} {F H : Hp} {σ : L2.St} {ρ : Sls} {a b e : Expr} {fa fb fe : M D} {pos p : Pos} {k : Nat}
theorem opd_leT (fx : Fit X c) : OpD c (rLeTS X.K) gLeT := by
  intro F H σ ρ x y d e Q rr tx ty h
  rw [fx.k]
  cases tx with
  | @tup a xs ds e1 t1 =>
    cases ty with
    | @tup b ys es e2 t2 =>
      have h : Pst c σ F ((match txts ds, txts es with
        | some xs, some ys => M.ret (D.bl (leSs xs ys))
        | _, _ => M.no) ρ) Q := h
      cases h1 : txts ds with
      | none => rw [h1] at h; exact False.elim h
      | some us =>
        cases h2 : txts es with
        | none => rw [h1, h2] at h; exact False.elim h
        | some vs =>
          rw [h1, h2] at h
          have f1 := txts_of t1 h1
          have f2 := txts_of t2 h2
          subst f1 f2
          exact ⟨a, b, us, vs, rfl, rfl, SqT.le rr.sub e1, SqT.le rr.sub e2, h.ret rr (.bl _)⟩
    | _ => exact False.elim h
  | _ => exact False.elim h
theorem de_leA (fx : Fit X c) (hr : Room k X.A) (ha : DE X c a fa) (hb : DE X c b fb) : DE X c (.Compare a [.LtE] [b] pos) (M.two fa fb gLeA) := de_cmp ((op_le.or op_le_str).or (op_leTS (Nat.lt_of_le_of_lt (Nat.le_add_right _ 64) hr.units))) (opd_alt opd_ord (opd_leT fx)) ha hb (nomark _)
theorem dt_leA (fx : Fit X c) (hr : Room k X.A) (ha : DE X c a fa) (hb : DE X c b fb) : DT X c (.Compare a [.LtE] [b] pos) ((M.two fa fb gLeA).bind M.tb) := dt_cmp ((op_le.or op_le_str).or (op_leTS (Nat.lt_of_le_of_lt (Nat.le_add_right _ 64) hr.units))) (opd_alt opd_ord (opd_leT fx)) ha hb (nomark _)
end
end DL

set_option Elab.async false
set_option linter.all false
set_option maxRecDepth 100000
set_option maxHeartbeats 4000000
/-! DN1: loops and comprehensions over data, evaluated. -/
namespace DL
open PySem PySem.Spec PyProof.Rows L2
/-- a loop that runs through, a state carried on -/
theorem loop_fold {S : Type} {g : Tg} {body : M Out} (Rl : S → Sls → Prop) (step : S → D → S) : ∀ (ds : List D) (s : S) (ρ : Sls), Rl s ρ →
    (∀ d ∈ ds, ∀ s ρ, Rl s ρ → ∃ ρ1 ρ2, g d ρ = some ρ1 ∧ body ρ1 = .ok .nx ρ2 ∧ Rl (step s d) ρ2) → ∃ ρ', M.loop g body ds ρ = .ok .nx ρ' ∧ Rl (ds.foldl step s) ρ'
  | [], s, ρ, h0, _ => ⟨ρ, rfl, h0⟩
  | d :: ds, s, ρ, h0, h => by
    obtain ⟨ρ1, ρ2, e1, e2, h2⟩ := h d (List.mem_cons_self ..) s ρ h0
    obtain ⟨ρ', e3, h3⟩ := loop_fold Rl step ds (step s d) ρ2 h2 fun d' hd => h d' (List.mem_cons_of_mem _ hd)
    refine ⟨ρ', ?_, h3⟩
    show (match g d ρ with | none => Ret.no | some ρ1 => _) = _
    rw [e1]; dsimp only; rw [e2]; exact e3
/-- a loop that runs through, or returns early -/
theorem loop_inv {g : Tg} {body : M Out} (P : Sls → Prop) : ∀ (ds : List D) (ρ : Sls), P ρ → (∀ d ∈ ds, ∀ ρ, P ρ → ∃ ρ1 ρ2, g d ρ = some ρ1 ∧ body ρ1 = .ok .nx ρ2 ∧ P ρ2) → ∃ ρ', M.loop g body ds ρ = .ok .nx ρ' ∧ P ρ' := fun ds ρ h0 h =>
  loop_fold (S := Unit) (fun _ ρ => P ρ) (fun s _ => s) ds () ρ h0 fun d hd _ ρ hp => h d hd ρ hp
/-- a comprehension that leaves the slots as they are -/
theorem compL_map {vs : List Nat} {g : Tg} {tt : M Bool} {fe : M D} {ρ : Sls} (f : D → D) : ∀ (ds acc : List D), acc.length + ds.length ≤ 16777216 →
    (∀ d ∈ ds, ∃ ρ1 ρ2 ρ3, g d (inBlk ρ vs) = some ρ1 ∧ tt ρ1 = .ok true ρ2 ∧ fe ρ2 = .ok (f d) ρ3 ∧ outBlk ρ ρ3 = ρ) → M.compL vs g tt fe ds acc ρ = .ok (acc ++ ds.map f) ρ
  | [], acc, _, _ => by rw [List.map_nil, List.append_nil]; rfl
  | d :: ds, acc, hl, h => by
    obtain ⟨ρ1, ρ2, ρ3, e1, e2, e3, e4⟩ := h d (List.mem_cons_self ..)
    have ih := compL_map (vs := vs) (g := g) (tt := tt) (fe := fe) (ρ := ρ) f ds (acc ++ [f d]) (by rw [List.length_append, List.length_singleton]; rw [List.length_cons] at hl; omega) fun d' hd => h d' (List.mem_cons_of_mem _ hd)
    show (match g d (inBlk ρ vs) with | none => Ret.no | some ρ1 => _) = _
    rw [e1]; dsimp only; rw [e2]; dsimp only; rw [e3]; dsimp only
    rw [if_pos (by rw [List.length_cons] at hl; omega), e4, ih, List.append_assoc, List.map_cons]; rfl
theorem comp_map {vs : List Nat} {g : Tg} {tt : M Bool} {fe : M D} {ρ : Sls} (f : D → D) (ds : List D) (hl : ds.length ≤ 16777216)
    (h : ∀ d ∈ ds, ∃ ρ1 ρ2 ρ3, g d (inBlk ρ vs) = some ρ1 ∧ tt ρ1 = .ok true ρ2 ∧ fe ρ2 = .ok (f d) ρ3 ∧ outBlk ρ ρ3 = ρ) : M.comp vs g tt fe ds ρ = .ok (.lst (ds.map f)) ρ := by
  unfold M.comp M.bind
  rw [compL_map f ds [] (by simpa using hl) h]
  rfl
/-- .. with a test -/
theorem compL_filter {vs : List Nat} {g : Tg} {tt : M Bool} {fe : M D} {ρ : Sls} (p : D → Bool) (f : D → D) : ∀ (ds acc : List D), acc.length + ds.length ≤ 16777216 →
    (∀ d ∈ ds, ∃ ρ1 ρ2, g d (inBlk ρ vs) = some ρ1 ∧ tt ρ1 = .ok (p d) ρ2 ∧ (p d = true → ∃ ρ3, fe ρ2 = .ok (f d) ρ3 ∧ outBlk ρ ρ3 = ρ) ∧ (p d = false → outBlk ρ ρ2 = ρ)) → M.compL vs g tt fe ds acc ρ = .ok (acc ++ (ds.filter p).map f) ρ
  | [], acc, _, _ => by rw [List.filter_nil, List.map_nil, List.append_nil]; rfl
  | d :: ds, acc, hl, h => by
    obtain ⟨ρ1, ρ2, e1, e2, e3, e4⟩ := h d (List.mem_cons_self ..)
    rw [List.length_cons] at hl
    show (match g d (inBlk ρ vs) with | none => Ret.no | some ρ1 => _) = _
    rw [e1]; dsimp only; rw [e2]
    cases hp : p d with
    | true =>
      obtain ⟨ρ3, e5, e6⟩ := e3 hp
      dsimp only
      rw [e5]; dsimp only
      rw [if_pos (by omega), e6, compL_filter p f ds (acc ++ [f d]) (by rw [List.length_append, List.length_singleton]; omega) fun d' hd => h d' (List.mem_cons_of_mem _ hd), List.append_assoc, List.filter_cons_of_pos hp, List.map_cons]; rfl
    | false =>
      dsimp only
      rw [e4 hp, compL_filter p f ds acc (by omega) fun d' hd => h d' (List.mem_cons_of_mem _ hd), List.filter_cons_of_neg (by rw [hp]; exact Bool.false_ne_true)]
/-- .. that carries a state on: what it gives is told by Q alone -/
theorem compL_inv {vs : List Nat} {g : Tg} {tt : M Bool} {fe : M D} (P : Sls → Prop) (Q : D → Prop) : ∀ (ds acc : List D) (ρ : Sls), acc.length + ds.length ≤ 16777216 → P ρ → (∀ e ∈ acc, Q e) →
    (∀ d ∈ ds, ∀ ρ, P ρ → ∃ ρ1 ρ2 ρ3 e, g d (inBlk ρ vs) = some ρ1 ∧ tt ρ1 = .ok true ρ2 ∧ fe ρ2 = .ok e ρ3 ∧ Q e ∧ P (outBlk ρ ρ3)) → ∃ es ρ', M.compL vs g tt fe ds acc ρ = .ok es ρ' ∧ es.length = acc.length + ds.length ∧ (∀ e ∈ es, Q e) ∧ P ρ'
  | [], acc, ρ, _, hp, hq, _ => ⟨acc, ρ, rfl, rfl, hq, hp⟩
  | d :: ds, acc, ρ, hl, hp, hq, h => by
    obtain ⟨ρ1, ρ2, ρ3, e, e1, e2, e3, q, p'⟩ := h d (List.mem_cons_self ..) ρ hp
    rw [List.length_cons] at hl
    obtain ⟨es, ρ', r1, r2, r3, r4⟩ := compL_inv P Q ds (acc ++ [e]) (outBlk ρ ρ3) (by rw [List.length_append, List.length_singleton]; omega) p' (fun x hx => by
      rcases List.mem_append.mp hx with z | z
      · exact hq x z
      · rw [List.mem_singleton.mp z]; exact q) fun d' hd => h d' (List.mem_cons_of_mem _ hd)
    refine ⟨es, ρ', ?_, by rw [r2, List.length_append, List.length_singleton, List.length_cons]; omega, r3, r4⟩
    show (match g d (inBlk ρ vs) with | none => Ret.no | some ρ1 => _) = _
    rw [e1]; dsimp only; rw [e2]; dsimp only; rw [e3]; dsimp only
    rw [if_pos (by omega)]; exact r1
theorem comp_inv {vs : List Nat} {g : Tg} {tt : M Bool} {fe : M D} (P : Sls → Prop) (Q : D → Prop) (ds : List D) (ρ : Sls) (hl : ds.length ≤ 16777216) (hp : P ρ)
    (h : ∀ d ∈ ds, ∀ ρ, P ρ → ∃ ρ1 ρ2 ρ3 e, g d (inBlk ρ vs) = some ρ1 ∧ tt ρ1 = .ok true ρ2 ∧ fe ρ2 = .ok e ρ3 ∧ Q e ∧ P (outBlk ρ ρ3)) : ∃ es ρ', M.comp vs g tt fe ds ρ = .ok (.lst es) ρ' ∧ es.length = ds.length ∧ (∀ e ∈ es, Q e) ∧ P ρ' := by
  obtain ⟨es, ρ', r1, r2, r3, r4⟩ := compL_inv P Q ds [] ρ (by simpa using hl) hp (by simp) h
  refine ⟨es, ρ', ?_, by simpa using r2, r3, r4⟩
  unfold M.comp M.bind
  rw [r1]; rfl
/-- a loop that returns at the first item under a test -/
theorem loop_find {g : Tg} {body : M Out} (test : D → Bool) (val : D → D) (P : Sls → Prop) : ∀ (ds : List D) (ρ : Sls), P ρ →
    (∀ d ∈ ds, ∀ ρ, P ρ → ∃ ρ1, g d ρ = some ρ1 ∧ (test d = true → ∃ ρ2, body ρ1 = .ok (.rt (val d)) ρ2) ∧ (test d = false → ∃ ρ2, body ρ1 = .ok .nx ρ2 ∧ P ρ2)) →
    (∃ d ρ', ds.find? test = some d ∧ M.loop g body ds ρ = .ok (.rt (val d)) ρ') ∨ (ds.find? test = none ∧ ∃ ρ', M.loop g body ds ρ = .ok .nx ρ' ∧ P ρ')
  | [], ρ, h0, _ => .inr ⟨rfl, ρ, rfl, h0⟩
  | d :: ds, ρ, h0, h => by
    obtain ⟨ρ1, e1, ht, hf⟩ := h d (List.mem_cons_self ..) ρ h0
    cases hd : test d with
    | true =>
      obtain ⟨ρ2, e2⟩ := ht hd
      refine .inl ⟨d, ρ2, List.find?_cons_of_pos hd, ?_⟩
      show (match g d ρ with | none => Ret.no | some ρ1 => _) = _
      rw [e1]; dsimp only; rw [e2]
    | false =>
      obtain ⟨ρ2, e2, h2⟩ := hf hd
      have es : M.loop g body (d :: ds) ρ = M.loop g body ds ρ2 := by
        show (match g d ρ with | none => Ret.no | some ρ1 => _) = _
        rw [e1]; dsimp only; rw [e2]
      have ef : (d :: ds).find? test = ds.find? test := List.find?_cons_of_neg (by rw [hd]; exact Bool.false_ne_true)
      rw [es, ef]
      exact loop_find test val P ds ρ2 h2 fun d' hd' => h d' (List.mem_cons_of_mem _ hd')
theorem seq_find {fi : M (List D)} {g : Tg} {body k : M Out} {ds : List D} {ρ0 ρ : Sls} (test : D → Bool) (val : D → D) (P : Sls → Prop) (r : D) (hfi : fi ρ0 = .ok ds ρ) (h0 : P ρ)
    (h : ∀ d ∈ ds, ∀ ρ, P ρ → ∃ ρ1, g d ρ = some ρ1 ∧ (test d = true → ∃ ρ2, body ρ1 = .ok (.rt (val d)) ρ2) ∧ (test d = false → ∃ ρ2, body ρ1 = .ok .nx ρ2 ∧ P ρ2))
    (h1 : ∀ d, ds.find? test = some d → val d = r) (h2 : ds.find? test = none → ∀ ρ', P ρ' → resD (k ρ') = .ok r) : resD (((fi.bind (M.loop g body)).seq k) ρ0) = .ok r := by
  unfold M.seq M.bind
  rw [hfi]
  rcases loop_find test val P ds ρ h0 h with ⟨d, ρ', e1, e2⟩ | ⟨e1, ρ', e2, hp⟩
  · dsimp only; rw [e2]; exact congrArg Res.ok (h1 d e1)
  · dsimp only; rw [e2]; exact h2 e1 ρ' hp
theorem seq_nxD {m k : M Out} {ρ ρ1 : Sls} (h : m ρ = .ok .nx ρ1) : (m.seq k) ρ = k ρ1 := by
  unfold M.seq M.bind; rw [h]
theorem bind_okD {α β : Type} {f : M α} {k : α → M β} {a : α} {ρ ρ1 : Sls} (h : f ρ = .ok a ρ1) : (f.bind k) ρ = k a ρ1 := by
  unfold M.bind; rw [h]
end DL

set_option Elab.async false
set_option linter.all false
set_option maxRecDepth 100000
set_option maxHeartbeats 4000000
/-! DN2: classes of the text by their facts; constants. -/
namespace DL
open PySem PySem.Spec PyProof.Rows PySem.W L2
section
variable {P : Program} {w : World} {K : Frag} {mg : Str → Option Value} {base : Heap} {T : List (Addr × Str)} {cn x f qual : Str} {st : Stmt} {N ps ks : List Str} {π : List Nat} {k : Nat} {C g pa : Addr} {oc mc : Value} {od an : Option Addr} {osl : Array (Option Value)} {kV doc pm cdv ct : Value} {rest : List Value}
theorem con_str {z : Str} {t : Tok} (hm : mg x = some (.str z t)) : Con K mg x (.str z) := ⟨.str z, .str z t, hm, ⟨t, rfl⟩, fun F => .str z⟩
theorem con_tupI {a : Addr} {o : Obj} {its : Array Value} {n : Nat} {ns : List Int} (hm : mg x = some (.ref a)) (hl : K.lookup a = some o) (hc : o.cls = .type "tuple") (hd : o.data = .seq its n) (hz : its.size ≤ sizeLine) (hv : Vals (ns.map V.int) its.toList) : Con K mg x (.tup (ns.map D.int)) :=
  ⟨.ref a, .ref a, hm, rfl, fun F => .tup (.inr ⟨o, its, n, hl, hc, hd, hz, hv⟩) (dts_ints ns)⟩
/-- a class that is made, read, asked -/
structure ClF (K : Frag) (mg : Str → Option Value) (cn : Str) : Prop where
  ex : ∃ C : Addr, mg cn = some (.ref C) ∧ Cls K C
theorem clF_of (hm : mg cn = some (.ref C)) (pg : plainGet K C Str.empty = true) (hd : hasDictIn K C = true) (po : plainOver K C = true) (sa : findIn K (.ref C) "__setattr__" = some (some (.builtin "object.__setattr__"))) : ClF K mg cn := ⟨C, hm, ⟨pg, hd, po, sa⟩⟩
theorem flB_of (c : ClF K mg cn) (hm : mg cn = some (.ref C)) (n : findIn K (.ref C) f = some none) : FlB K mg cn f := by
  obtain ⟨C', h1, h2⟩ := c.ex
  rw [hm] at h1
  cases h1
  exact ⟨C, hm, h2, n⟩
theorem insT_of (c : ClF K mg cn) (hm : mg cn = some (.ref C)) (ha : findIn K (.ref C) "__class__" = some (some (.builtin "object.__class__"))) (hn : specialIn K (.builtin "object.__class__") "__get__" = some (some (.builtin "getset_descriptor.__get__")))
    (htk : takesIn K (.builtin "object.__class__") = some true) (hmr : mroIn K C (.type "object") = some true) : InsT K C := by
  obtain ⟨C', h1, h2⟩ := c.ex
  rw [hm] at h1
  cases h1
  exact ⟨h2, ha, hn, htk, hmr⟩
/-- a def of the class, with one name the object itself -/
structure MeF (K : Frag) (x qual : Str) (st : Stmt) (ps : List Str) (g : Addr) (fd : FuncData) : Prop where
  fn : Fun K x qual st g fd
  bd : ∀ us : List Value, us.length = ps.length → bindArgs fd ⟨us, []⟩ = pure (ps.zip us)
structure PrF (K : Frag) (mg : Str → Option Value) (cn f qual : Str) (st : Stmt) : Prop where
  ex : ∃ C pa g fd, mg cn = some (.ref C) ∧ Cls K C ∧ PropOf K C f pa g ∧ MeF K f qual st ["self"] g fd
theorem prF_of (c : ClF K mg cn) (hm : mg cn = some (.ref C)) (h1 : findIn K (.ref C) f = some (some (.ref pa))) (h2 : specialIn K (.ref pa) "__get__" = some (some (.builtin "property.__get__"))) (h3 : takesIn K (.ref pa) = some true) (h4 : recIn K pa "property" = some (.ref g :: rest))
    (l : K.lookup g = some ⟨oc, od, .func (fnOf f qual (defArgs st) (defBody st) (defScope st) .none kV doc pm an cdv ct), osl⟩) (hc : codeIn K cdv qual = true) (k : keepIn K (.ref g) = true)
    (hbd : ∀ (kV doc pm : Value) (an : Option Addr) (cdv ct : Value) (us : List Value), us.length = 1 → bindArgs (fnOf f qual (defArgs st) (defBody st) (defScope st) .none kV doc pm an cdv ct) ⟨us, []⟩ = pure ((["self"] : List Str).zip us)) : PrF K mg cn f qual st := by
  obtain ⟨C', e1, e2⟩ := c.ex
  rw [hm] at e1
  cases e1
  exact ⟨C, pa, g, _, hm, e2, ⟨h1, h2, h3, rest, h4⟩, ⟨fun_mk l hc k, hbd kV doc pm an cdv ct⟩⟩
theorem prB_of {gg : M Out} (d : PrF K mg cn f qual st) (S : FnScope N ["self"] (defScope st))
    (hbody : ∀ (f : Addr) (cdv : Value) (A : Around) (outer : List Env) (s : Shared) (H : Hp) (E : XK) (c : Fc), c.K = K → c.mg = mg → c.T = T → Fit (cxOf (L2.CX P w) P w K mg base N qual (defScope st) f cdv A outer s H E) c → Room k (A.deeper (envOfC qual (defScope st) s.heap.objs.size f cdv)) →
      DSs (cxOf (L2.CX P w) P w K mg base N qual (defScope st) f cdv A outer s H E) c (defBody st) gg) :
    PrB P w K mg base T cn f (k + 1) fun ds => resD (gg (slots N.length (ds.map .im))) := by
  obtain ⟨C, pa, g, fd, h1, h2, h3, h4⟩ := d.ex
  exact ⟨C, pa, g, fd, ["self"], h1, h2, h3, fn_spD h4.fn S fun cdv A ou s H E c => hbody g cdv A ou s H E c, .all h4.bd⟩
structure MkF (K : Frag) (mg : Str → Option Value) (cn qual : Str) (st : Stmt) (ps : List Str) : Prop where
  ex : ∃ C g fd, mg cn = some (.ref C) ∧ Mk K C g ∧ MeF K "__init__" qual st ps g fd
theorem mkF_of (hm : mg cn = some (.ref C)) (h1 : makesIn K C = true) (h2 : findIn K (.ref C) "__init__" = some (some (.ref g))) (h3 : isFn K (.ref g) = true) (h4 : keepIn K (.ref C) = true)
    (l : K.lookup g = some ⟨oc, od, .func (fnOf "__init__" qual (defArgs st) (defBody st) (defScope st) .none kV doc pm an cdv ct), osl⟩) (hc : codeIn K cdv qual = true) (k : keepIn K (.ref g) = true)
    (hbd : ∀ (kV doc pm : Value) (an : Option Addr) (cdv ct : Value) (us : List Value), us.length = ps.length → bindArgs (fnOf "__init__" qual (defArgs st) (defBody st) (defScope st) .none kV doc pm an cdv ct) ⟨us, []⟩ = pure (ps.zip us)) : MkF K mg cn qual st ps :=
  ⟨C, g, _, hm, ⟨h1, h2, h3, h4⟩, ⟨fun_mk l hc k, hbd kV doc pm an cdv ct⟩⟩
theorem mkB_of {gg : M Out} (d : MkF K mg cn qual st ps) (S : FnScope N ps (defScope st))
    (hbody : ∀ (f : Addr) (cdv : Value) (A : Around) (outer : List Env) (s : Shared) (H : Hp) (E : XK) (c : Fc), c.K = K → c.mg = mg → c.T = T → Fit (cxOf (L2.CX P w) P w K mg base N qual (defScope st) f cdv A outer s H E) c → Room k (A.deeper (envOfC qual (defScope st) s.heap.objs.size f cdv)) →
      DSs (cxOf (L2.CX P w) P w K mg base N qual (defScope st) f cdv A outer s H E) c (defBody st) gg) :
    MkB P w K mg base T cn (k + 1) ps.length fun t ds => resB (gg (slots N.length (.bo t :: ds.map .im))) := by
  obtain ⟨C, g, fd, h1, h2, h3⟩ := d.ex
  exact ⟨C, g, fd, ps, h1, h2, fn_spB h3.fn S fun cdv A ou s H E c => hbody g cdv A ou s H E c, .all h3.bd⟩
structure CmF (K : Frag) (mg : Str → Option Value) (cn m qual : Str) (st : Stmt) (ps : List Str) : Prop where
  ex : ∃ C mc pa g fd, mg cn = some (.ref C) ∧ ClX.CRead K C mc ∧ ClX.CMet K C mc m pa g ∧ MeF K m qual st ps g fd
theorem cmF_of (hm : mg cn = some (.ref C)) (h1 : readsIn K C mc = true) (h2 : specialIn K (.ref C) "__getattribute__" = some (some (.builtin "type.__getattribute__"))) (h3 : findCls K (.ref C) mc f = some (.get (.builtin "classmethod.__get__") (.ref pa) .none (.ref C))) (h4 : recIn K pa "classmethod" = some (.ref g :: rest)) (h5 : fnIn K g = true)
    (l : K.lookup g = some ⟨oc, od, .func (fnOf f qual (defArgs st) (defBody st) (defScope st) .none kV doc pm an cdv ct), osl⟩) (hc : codeIn K cdv qual = true) (k : keepIn K (.ref g) = true)
    (hbd : ∀ (kV doc pm : Value) (an : Option Addr) (cdv ct : Value) (us : List Value), us.length = ps.length → bindArgs (fnOf f qual (defArgs st) (defBody st) (defScope st) .none kV doc pm an cdv ct) ⟨us, []⟩ = pure (ps.zip us)) : CmF K mg cn f qual st ps :=
  ⟨C, mc, pa, g, _, hm, ⟨h1, h2⟩, ⟨h3, ⟨rest, h4⟩, h5⟩, ⟨fun_mk l hc k, hbd kV doc pm an cdv ct⟩⟩
theorem cmB_of {gg : M Out} (d : CmF K mg cn f qual st ps) (S : FnScope N ps (defScope st))
    (hbody : ∀ (f : Addr) (cdv : Value) (A : Around) (outer : List Env) (s : Shared) (H : Hp) (E : XK) (c : Fc), c.K = K → c.mg = mg → c.T = T → Fit (cxOf (L2.CX P w) P w K mg base N qual (defScope st) f cdv A outer s H E) c → Room k (A.deeper (envOfC qual (defScope st) s.heap.objs.size f cdv)) →
      DSs (cxOf (L2.CX P w) P w K mg base N qual (defScope st) f cdv A outer s H E) c (defBody st) gg) :
    CmB P w K mg base T cn f (k + 1) ps.length fun ds => resD (gg (slots N.length (ds.map .im))) := by
  obtain ⟨C, mc, pa, g, fd, h1, h2, h3, h4⟩ := d.ex
  exact ⟨C, mc, pa, g, fd, ps, h1, h2, h3, fn_spD h4.fn S fun cdv A ou s H E c => hbody g cdv A ou s H E c, .all h4.bd⟩
end
end DL

set_option Elab.async false
set_option linter.all false
set_option maxRecDepth 100000
set_option maxHeartbeats 4000000
namespace KX
open PySem PySem.Spec PyProof.Rows L2 DL
def top (i : Nat) : Stmt := PySem.Challenge.pw_braidwords_k05_whole_rows_sent.main.body.getD i (.Pass ⟨0, 0, 0, 0⟩)
def ins : List Str := ["Mirrors"]
def exc : List Str := ["NotRight", "InvalidText", "InvalidNumber", "InvalidWord", "NotMirrors", "InvalidAngles", "InvalidRow"]
def ups (c : Str) : List DL.Ty :=
  if c = "NotRight" then [.inr "NotRight", .inl "ValueError"] else
  if c = "InvalidText" then [.inr "InvalidText", .inr "NotRight", .inl "ValueError"] else
  if c = "InvalidNumber" then [.inr "InvalidNumber", .inr "NotRight", .inl "ValueError"] else
  if c = "InvalidWord" then [.inr "InvalidWord", .inr "NotRight", .inl "ValueError"] else
  if c = "NotMirrors" then [.inr "NotMirrors", .inr "NotRight", .inl "ValueError"] else
  if c = "InvalidAngles" then [.inr "InvalidAngles", .inr "NotRight", .inl "ValueError"] else
  if c = "InvalidRow" then [.inr "InvalidRow", .inr "NotRight", .inl "ValueError"] else
  if c = "Mirrors" then [.inr "Mirrors"] else []
def usedO : List Str := ["Mirrors"]
def usedB : List String := ["bool", "int", "str", "tuple"]
def own : List Str := ["NotRight", "InvalidText", "InvalidNumber", "InvalidWord", "NotMirrors", "InvalidAngles", "InvalidRow", "Mirrors"]
def plainTys : List String := ["NoneType", "bool", "int", "str", "list", "tuple", "dict"]
/-- a type of the left kind is under one of the right kind, as far as it is told -/
def kt : DL.KT := DL.ktOf ups own usedO usedB plainTys
def K_MOST_LETTERS : D := (.int 6)
def K_MOST_WORD : D := (.int 60)
def K_ALPHABET : D := (.str "abcdef")
def K_PLAIN_NUMBER : D := (.int 2)
def K_TOLD_NUMBERS : D := (.tup [(.int 3), (.int 4), (.int 6), (.int 0)])
def KD_WRITTEN_NUMBERS : List (Key × D) := [((.inr "3" : Key), (.int 3)), ((.inr "4" : Key), (.int 4)), ((.inr "6" : Key), (.int 6)), ((.inr "0" : Key), (.int 0))]
def KD_SHARES_OF_LESSER : List (Key × D) := [((.inl 2 : Key), (.int 0)), ((.inl 3 : Key), (.int 1)), ((.inl 4 : Key), (.int 1)), ((.inl 6 : Key), (.int 1)), ((.inl 0 : Key), (.int 2))]
def KD_SHARES_OF_GREATER : List (Key × D) := [((.inl 2 : Key), (.int 0)), ((.inl 3 : Key), (.int 1)), ((.inl 4 : Key), (.int 2)), ((.inl 6 : Key), (.int 3)), ((.inl 0 : Key), (.int 2))]
def cat_NotRight (c : Str) : Option Bool := if c ∈ (["InvalidAngles", "InvalidNumber", "InvalidRow", "InvalidText", "InvalidWord", "NotMirrors"] : List Str) then some true else none
abbrev s_is_letter : Stmt := top 14
theorem sc_is_letter : FnScope ["letters", "value"] ["letters", "value"] (defScope s_is_letter) := ⟨rfl, rfl, rfl, by decide +kernel, rfl, by decide +kernel, by decide +kernel⟩
def b_is_letter : { g : M Out // ∀ (P : Program) (w : World) (K : PySem.W.Frag) (mg : Str → Option Value) (base : Heap) (T : List (Addr × Str)) (f : Addr) (kin : DL.Kinds K mg ins exc) (kto : KtOk K mg kt) (n_isinstance : mg "isinstance" = none) (n_len : mg "len" = none) (n_str : mg "str" = none) (cdv : Value) (A : Around) (outer : List Env) (s : Shared) (H : Hp) (E : XK) (c : Fc) (hK : c.K = K) (hM : c.mg = mg) (hT : c.T = T) (fx : Fit (cxOf (L2.CX P w) P w K mg base ["letters", "value"] "is_letter" (defScope s_is_letter) f cdv A outer s H E) c) (hr : Room 0 (A.deeper (envOfC "is_letter" (defScope s_is_letter) s.heap.objs.size f cdv))), DSs (cxOf (L2.CX P w) P w K mg base ["letters", "value"] "is_letter" (defScope s_is_letter) f cdv A outer s H E) c (defBody s_is_letter) g } :=
  ⟨_, fun P w K mg base T f kin kto n_isinstance n_len n_str cdv A outer s H E c hK hM hT fx hr => (dss_one (ds_ret (de_and (de_isiC fx kin kto rfl n_isinstance (da_cons (de_v 1) (da_cons (de_ty rfl n_str rfl) da_nil))) (de_and (de_eqA fx hr (de_len fx rfl n_len (da_cons (de_v 1) da_nil)) de_int) (de_one (de_in fx (de_v 1) (de_v 0)))))))⟩
def F_is_letter (ds : List D) : Res D := resD (b_is_letter.1 (slots 2 (ds.map .im)))
abbrev s_is_integer : Stmt := top 12
theorem sc_is_integer : FnScope ["value"] ["value"] (defScope s_is_integer) := ⟨rfl, rfl, rfl, by decide +kernel, rfl, by decide +kernel, by decide +kernel⟩
def b_is_integer : { g : M Out // ∀ (P : Program) (w : World) (K : PySem.W.Frag) (mg : Str → Option Value) (base : Heap) (T : List (Addr × Str)) (f : Addr) (kin : DL.Kinds K mg ins exc) (kto : KtOk K mg kt) (n_bool : mg "bool" = none) (n_int : mg "int" = none) (n_isinstance : mg "isinstance" = none) (cdv : Value) (A : Around) (outer : List Env) (s : Shared) (H : Hp) (E : XK) (c : Fc) (hK : c.K = K) (hM : c.mg = mg) (hT : c.T = T) (fx : Fit (cxOf (L2.CX P w) P w K mg base ["value"] "is_integer" (defScope s_is_integer) f cdv A outer s H E) c) (hr : Room 0 (A.deeper (envOfC "is_integer" (defScope s_is_integer) s.heap.objs.size f cdv))), DSs (cxOf (L2.CX P w) P w K mg base ["value"] "is_integer" (defScope s_is_integer) f cdv A outer s H E) c (defBody s_is_integer) g } :=
  ⟨_, fun P w K mg base T f kin kto n_bool n_int n_isinstance cdv A outer s H E c hK hM hT fx hr => (dss_one (ds_ret (de_and (de_isiC fx kin kto rfl n_isinstance (da_cons (de_v 0) (da_cons (de_ty rfl n_int rfl) da_nil))) (de_one (de_not (de_isiC fx kin kto rfl n_isinstance (da_cons (de_v 0) (da_cons (de_ty rfl n_bool rfl) da_nil))))))))⟩
def F_is_integer (ds : List D) : Res D := resD (b_is_integer.1 (slots 1 (ds.map .im)))
abbrev s_is_triple : Stmt := top 25
theorem sc_is_triple : FnScope ["letters", "value", "x", "y", "number"] ["letters", "value"] (defScope s_is_triple) := ⟨rfl, rfl, rfl, by decide +kernel, rfl, by decide +kernel, by decide +kernel⟩
def b_is_triple : { g : M Out // ∀ (P : Program) (w : World) (K : PySem.W.Frag) (mg : Str → Option Value) (base : Heap) (T : List (Addr × Str)) (f : Addr) (c_is_integer : Cal P w K mg base T "is_integer" 1 1 F_is_integer) (c_is_letter : Cal P w K mg base T "is_letter" 1 2 F_is_letter) (k_TOLD_NUMBERS : Con K mg "TOLD_NUMBERS" K_TOLD_NUMBERS) (kin : DL.Kinds K mg ins exc) (kto : KtOk K mg kt) (n_isinstance : mg "isinstance" = none) (n_len : mg "len" = none) (n_tuple : mg "tuple" = none) (cdv : Value) (A : Around) (outer : List Env) (s : Shared) (H : Hp) (E : XK) (c : Fc) (hK : c.K = K) (hM : c.mg = mg) (hT : c.T = T) (fx : Fit (cxOf (L2.CX P w) P w K mg base ["letters", "value", "x", "y", "number"] "is_triple" (defScope s_is_triple) f cdv A outer s H E) c) (hr : Room 1 (A.deeper (envOfC "is_triple" (defScope s_is_triple) s.heap.objs.size f cdv))), DSs (cxOf (L2.CX P w) P w K mg base ["letters", "value", "x", "y", "number"] "is_triple" (defScope s_is_triple) f cdv A outer s H E) c (defBody s_is_triple) g } :=
  ⟨_, fun P w K mg base T f c_is_integer c_is_letter k_TOLD_NUMBERS kin kto n_isinstance n_len n_tuple cdv A outer s H E c hK hM hT fx hr => (dss_cons (ds_if (dt_w (dw_or (dt_not (dt_tru fx (de_isiC fx kin kto rfl n_isinstance (da_cons (de_v 1) (da_cons (de_ty rfl n_tuple rfl) da_nil))))) (dw_or1 (dt_neA fx hr (de_len fx rfl n_len (da_cons (de_v 1) da_nil)) de_int)))) (dss_one (ds_ret de_bl)) dss_nil) (dss_cons (ds_asg (de_v 1) (dg_tup (n := 3) fx rfl (dgs_cons (dg_name (i := 2) sc_is_triple.nd rfl (by first | exact .inl rfl | exact .inr rfl | exact .inr (.inl rfl))) (dgs_cons (dg_name (i := 3) sc_is_triple.nd rfl (by first | exact .inl rfl | exact .inr rfl | exact .inr (.inl rfl))) (dgs_cons (dg_name (i := 4) sc_is_triple.nd rfl (by first | exact .inl rfl | exact .inr rfl | exact .inr (.inl rfl))) dgs_nil))))) (dss_cons (ds_if (dt_w (dw_or (dt_not (dt_tru fx (de_callC fx hT c_is_letter hr (by decide) rfl (da_cons (de_v 0) (da_cons (de_v 2) da_nil))))) (dw_or (dt_not (dt_tru fx (de_callC fx hT c_is_letter hr (by decide) rfl (da_cons (de_v 0) (da_cons (de_v 3) da_nil))))) (dw_or1 (dt_not (dt_tru fx (de_callC fx hT c_is_integer hr (by decide) rfl (da_cons (de_v 4) da_nil)))))))) (dss_one (ds_ret de_bl)) dss_nil) (dss_one (ds_ret (de_and (de_lt (de_v 2) (de_v 3)) (de_one (de_in fx (de_v 4) (de_con fx k_TOLD_NUMBERS rfl)))))))))⟩
def F_is_triple (ds : List D) : Res D := resD (b_is_triple.1 (slots 5 (ds.map .im)))
abbrev s_first_wrong : Stmt := top 24
theorem sc_first_wrong : FnScope ["letters", "angles", "last", "index", "value"] ["letters", "angles"] (defScope s_first_wrong) := ⟨rfl, rfl, rfl, by decide +kernel, rfl, by decide +kernel, by decide +kernel⟩
def b_first_wrong : { g : M Out // ∀ (P : Program) (w : World) (K : PySem.W.Frag) (mg : Str → Option Value) (base : Heap) (T : List (Addr × Str)) (f : Addr) (c_is_triple : Cal P w K mg base T "is_triple" 2 2 F_is_triple) (n_enumerate : mg "enumerate" = none) (cdv : Value) (A : Around) (outer : List Env) (s : Shared) (H : Hp) (E : XK) (c : Fc) (hK : c.K = K) (hM : c.mg = mg) (hT : c.T = T) (fx : Fit (cxOf (L2.CX P w) P w K mg base ["letters", "angles", "last", "index", "value"] "first_wrong" (defScope s_first_wrong) f cdv A outer s H E) c) (hr : Room 2 (A.deeper (envOfC "first_wrong" (defScope s_first_wrong) s.heap.objs.size f cdv))), DSs (cxOf (L2.CX P w) P w K mg base ["letters", "angles", "last", "index", "value"] "first_wrong" (defScope s_first_wrong) f cdv A outer s H E) c (defBody s_first_wrong) g } :=
  ⟨_, fun P w K mg base T f c_is_triple n_enumerate cdv A outer s H E c hK hM hT fx hr => (dss_cons (ds_asg (de_tup (da_cons de_str (da_cons de_str da_nil))) (dg_name (i := 2) sc_first_wrong.nd rfl (by first | exact .inl rfl | exact .inr rfl | exact .inr (.inl rfl)))) (dss_cons (ds_for (passes_of rfl) rfl (di_enumA fx rfl n_enumerate (da_cons (de_v 1) da_nil)) (dg_tup (n := 2) fx rfl (dgs_cons (dg_name (i := 3) sc_first_wrong.nd rfl (by first | exact .inl rfl | exact .inr rfl | exact .inr (.inl rfl))) (dgs_cons (dg_name (i := 4) sc_first_wrong.nd rfl (by first | exact .inl rfl | exact .inr rfl | exact .inr (.inl rfl))) dgs_nil))) (dss_cons (ds_if (dt_w (dw_or (dt_not (dt_tru fx (de_callC fx hT c_is_triple hr (by decide) rfl (da_cons (de_v 0) (da_cons (de_v 4) da_nil))))) (dw_or1 (dt_leA fx hr (de_sl fx (de_v 4) do_none (do_some de_int)) (de_v 2))))) (dss_one (ds_ret (de_v 3))) dss_nil) (dss_one (ds_asg (de_sl fx (de_v 4) do_none (do_some de_int)) (dg_name (i := 2) sc_first_wrong.nd rfl (by first | exact .inl rfl | exact .inr rfl | exact .inr (.inl rfl))))))) (dss_one (ds_ret de_non))))⟩
def F_first_wrong (ds : List D) : Res D := resD (b_first_wrong.1 (slots 5 (ds.map .im)))
abbrev s_text_of : Stmt := top 27
theorem sc_text_of : FnScope ["letters", "angles", "x", "y", "number"] ["letters", "angles"] (defScope s_text_of) := ⟨rfl, rfl, rfl, by decide +kernel, rfl, by decide +kernel, by decide +kernel⟩
def b_text_of : { g : M Out // ∀ (P : Program) (w : World) (K : PySem.W.Frag) (mg : Str → Option Value) (base : Heap) (T : List (Addr × Str)) (f : Addr)  (cdv : Value) (A : Around) (outer : List Env) (s : Shared) (H : Hp) (E : XK) (c : Fc) (hK : c.K = K) (hM : c.mg = mg) (hT : c.T = T) (fx : Fit (cxOf (L2.CX P w) P w K mg base ["letters", "angles", "x", "y", "number"] "text_of" (defScope s_text_of) f cdv A outer s H E) c) (hr : Room 0 (A.deeper (envOfC "text_of" (defScope s_text_of) s.heap.objs.size f cdv))), DSs (cxOf (L2.CX P w) P w K mg base ["letters", "angles", "x", "y", "number"] "text_of" (defScope s_text_of) f cdv A outer s H E) c (defBody s_text_of) g } :=
  ⟨_, fun P w K mg base T f  cdv A outer s H E c hK hM hT fx hr => (dss_one (ds_ret (de_join fx de_str (da_cons (de_add fx (de_lst (da_cons (de_v 0) da_nil)) (de_comp (own := [("x", 2), ("y", 3), ("number", 4)]) fx rfl sc_text_of.nd (di_anyK fx (de_v 1)) (blk_by (by kernel_rfl)) (by decide) (by decide) (fun s1 H1 C1 cl1 fp1 c1 fb1 => (dg_tup (n := 3) (fb1.fit rfl) rfl (dgs_cons (dg_name (i := 2) sc_text_of.nd rfl (by first | exact .inl rfl | exact .inr rfl | exact .inr (.inl rfl))) (dgs_cons (dg_name (i := 3) sc_text_of.nd rfl (by first | exact .inl rfl | exact .inr rfl | exact .inr (.inl rfl))) (dgs_cons (dg_name (i := 4) sc_text_of.nd rfl (by first | exact .inl rfl | exact .inr rfl | exact .inr (.inl rfl))) dgs_nil))))) (fun s1 H1 C1 cl1 fp1 c1 fb1 => .nil) (fun s1 H1 C1 cl1 fp1 c1 fb1 => (de_js (.cons (de_fmt (de_v 2)) (.cons (de_fmt (de_v 3)) (.cons (de_fmt (de_v 4)) .nil))))))) da_nil))))⟩
def F_text_of (ds : List D) : Res D := resD (b_text_of.1 (slots 5 (ds.map .im)))
abbrev s_is_integer_between : Stmt := top 13
theorem sc_is_integer_between : FnScope ["value", "low", "high"] ["value", "low", "high"] (defScope s_is_integer_between) := ⟨rfl, rfl, rfl, by decide +kernel, rfl, by decide +kernel, by decide +kernel⟩
def b_is_integer_between : { g : M Out // ∀ (P : Program) (w : World) (K : PySem.W.Frag) (mg : Str → Option Value) (base : Heap) (T : List (Addr × Str)) (f : Addr) (c_is_integer : Cal P w K mg base T "is_integer" 1 1 F_is_integer) (cdv : Value) (A : Around) (outer : List Env) (s : Shared) (H : Hp) (E : XK) (c : Fc) (hK : c.K = K) (hM : c.mg = mg) (hT : c.T = T) (fx : Fit (cxOf (L2.CX P w) P w K mg base ["value", "low", "high"] "is_integer_between" (defScope s_is_integer_between) f cdv A outer s H E) c) (hr : Room 1 (A.deeper (envOfC "is_integer_between" (defScope s_is_integer_between) s.heap.objs.size f cdv))), DSs (cxOf (L2.CX P w) P w K mg base ["value", "low", "high"] "is_integer_between" (defScope s_is_integer_between) f cdv A outer s H E) c (defBody s_is_integer_between) g } :=
  ⟨_, fun P w K mg base T f c_is_integer cdv A outer s H E c hK hM hT fx hr => (dss_one (ds_ret (de_and (de_callC fx hT c_is_integer hr (by decide) rfl (da_cons (de_v 0) da_nil)) (de_one (de_lele (de_v 1) (de_v 0) (de_v 2))))))⟩
def F_is_integer_between (ds : List D) : Res D := resD (b_is_integer_between.1 (slots 3 (ds.map .im)))
abbrev s_Mirrors___init__ : Stmt := inClass (top 20) 0
theorem sc_Mirrors___init__ : FnScope ["self", "size", "angles", "wrong"] ["self", "size", "angles"] (defScope s_Mirrors___init__) := ⟨rfl, rfl, rfl, by decide +kernel, rfl, by decide +kernel, by decide +kernel⟩
def b_Mirrors___init__ : { g : M Out // ∀ (P : Program) (w : World) (K : PySem.W.Frag) (mg : Str → Option Value) (base : Heap) (T : List (Addr × Str)) (f : Addr) (c_first_wrong : Cal P w K mg base T "first_wrong" 3 2 F_first_wrong) (c_is_integer_between : Cal P w K mg base T "is_integer_between" 2 3 F_is_integer_between) (c_text_of : Cal P w K mg base T "text_of" 1 2 F_text_of) (f_Mirrors__angles : FlB K mg "Mirrors" "_angles") (f_Mirrors__letters : FlB K mg "Mirrors" "_letters") (f_Mirrors__text : FlB K mg "Mirrors" "_text") (k_ALPHABET : Con K mg "ALPHABET" K_ALPHABET) (k_MOST_LETTERS : Con K mg "MOST_LETTERS" K_MOST_LETTERS) (kin : DL.Kinds K mg ins exc) (kto : KtOk K mg kt) (n_isinstance : mg "isinstance" = none) (n_tuple : mg "tuple" = none) (x_InvalidAngles : XcB P w K mg base "InvalidAngles" 1 (fD1 "index")) (x_InvalidNumber : XcB P w K mg base "InvalidNumber" 1 (fD1 "given")) (cdv : Value) (A : Around) (outer : List Env) (s : Shared) (H : Hp) (E : XK) (c : Fc) (hK : c.K = K) (hM : c.mg = mg) (hT : c.T = T) (fx : Fit (cxOf (L2.CX P w) P w K mg base ["self", "size", "angles", "wrong"] "Mirrors.__init__" (defScope s_Mirrors___init__) f cdv A outer s H E) c) (hr : Room 3 (A.deeper (envOfC "Mirrors.__init__" (defScope s_Mirrors___init__) s.heap.objs.size f cdv))), DSs (cxOf (L2.CX P w) P w K mg base ["self", "size", "angles", "wrong"] "Mirrors.__init__" (defScope s_Mirrors___init__) f cdv A outer s H E) c (defBody s_Mirrors___init__) g } :=
  ⟨_, fun P w K mg base T f c_first_wrong c_is_integer_between c_text_of f_Mirrors__angles f_Mirrors__letters f_Mirrors__text k_ALPHABET k_MOST_LETTERS kin kto n_isinstance n_tuple x_InvalidAngles x_InvalidNumber cdv A outer s H E c hK hM hT fx hr => (dss_cons (ds_if (dt_not (dt_tru fx (de_callC fx hT c_is_integer_between hr (by decide) rfl (da_cons (de_v 1) (da_cons de_int (da_cons (de_con fx k_MOST_LETTERS rfl) da_nil)))))) (dss_one (ds_raisC rfl fx.t x_InvalidNumber hr (by decide) rfl (da_cons (de_v 1) da_nil))) dss_nil) (dss_cons (ds_if (dt_not (dt_tru fx (de_isiC fx kin kto rfl n_isinstance (da_cons (de_v 2) (da_cons (de_ty rfl n_tuple rfl) da_nil))))) (dss_one (ds_raisC rfl fx.t x_InvalidAngles hr (by decide) rfl (da_cons de_non da_nil))) dss_nil) (dss_cons (ds_asg (de_callC fx hT c_first_wrong hr (by decide) rfl (da_cons (de_sl fx (de_con fx k_ALPHABET rfl) do_none (do_some (de_v 1))) (da_cons (de_v 2) da_nil))) (dg_name (i := 3) sc_Mirrors___init__.nd rfl (by first | exact .inl rfl | exact .inr rfl | exact .inr (.inl rfl)))) (dss_cons (ds_if (dt_notN (de_v 3) de_non) (dss_one (ds_raisC rfl fx.t x_InvalidAngles hr (by decide) rfl (da_cons (de_v 3) da_nil))) dss_nil) (dss_cons (ds_setFC (i := 0) fx f_Mirrors__letters rfl (by first | exact .inl rfl | exact .inr (.inl rfl) | exact .inr (.inr rfl)) (de_sl fx (de_con fx k_ALPHABET rfl) do_none (do_some (de_v 1)))) (dss_cons (ds_setFC (i := 0) fx f_Mirrors__angles rfl (by first | exact .inl rfl | exact .inr (.inl rfl) | exact .inr (.inr rfl)) (de_v 2)) (dss_one (ds_setFC (i := 0) fx f_Mirrors__text rfl (by first | exact .inl rfl | exact .inr (.inl rfl) | exact .inr (.inr rfl)) (de_callC fx hT c_text_of hr (by decide) rfl (da_cons (de_fldOC (i := 0) fx f_Mirrors__letters rfl (by first | exact .inl rfl | exact .inr (.inl rfl) | exact .inr (.inr rfl))) (da_cons (de_v 2) da_nil)))))))))))⟩
def O_Mirrors___init__ (t : D) (ds : List D) : Res (D × D) := resB (b_Mirrors___init__.1 (slots 4 (.bo t :: ds.map .im)))
abbrev s_triple_of : Stmt := top 26
theorem sc_triple_of : FnScope ["word"] ["word"] (defScope s_triple_of) := ⟨rfl, rfl, rfl, by decide +kernel, rfl, by decide +kernel, by decide +kernel⟩
def b_triple_of : { g : M Out // ∀ (P : Program) (w : World) (K : PySem.W.Frag) (mg : Str → Option Value) (base : Heap) (T : List (Addr × Str)) (f : Addr) (d_WRITTEN_NUMBERS : KDB P w K mg "WRITTEN_NUMBERS" KD_WRITTEN_NUMBERS) (cdv : Value) (A : Around) (outer : List Env) (s : Shared) (H : Hp) (E : XK) (c : Fc) (hK : c.K = K) (hM : c.mg = mg) (hT : c.T = T) (fx : Fit (cxOf (L2.CX P w) P w K mg base ["word"] "triple_of" (defScope s_triple_of) f cdv A outer s H E) c) (hr : Room 0 (A.deeper (envOfC "triple_of" (defScope s_triple_of) s.heap.objs.size f cdv))), DSs (cxOf (L2.CX P w) P w K mg base ["word"] "triple_of" (defScope s_triple_of) f cdv A outer s H E) c (defBody s_triple_of) g } :=
  ⟨_, fun P w K mg base T f d_WRITTEN_NUMBERS cdv A outer s H E c hK hM hT fx hr => (dss_one (ds_ret (de_tup (da_cons (de_sl fx (de_v 0) do_none (do_some de_int)) (da_cons (de_sl fx (de_v 0) (do_some de_int) (do_some de_int)) (da_cons (de_kget fx d_WRITTEN_NUMBERS rfl (de_sl fx (de_v 0) (do_some de_int) do_none)) da_nil))))))⟩
def F_triple_of (ds : List D) : Res D := resD (b_triple_of.1 (slots 1 (ds.map .im)))
abbrev s_Mirrors_read : Stmt := inClass (top 20) 1
theorem sc_Mirrors_read : FnScope ["cls", "text", "letters", "words", "size", "angles", "word"] ["cls", "text"] (defScope s_Mirrors_read) := ⟨rfl, rfl, rfl, by decide +kernel, rfl, by decide +kernel, by decide +kernel⟩
def b_Mirrors_read : { g : M Out // ∀ (P : Program) (w : World) (K : PySem.W.Frag) (mg : Str → Option Value) (base : Heap) (T : List (Addr × Str)) (f : Addr) (c_first_wrong : Cal P w K mg base T "first_wrong" 3 2 F_first_wrong) (c_triple_of : Cal P w K mg base T "triple_of" 1 1 F_triple_of) (k_ALPHABET : Con K mg "ALPHABET" K_ALPHABET) (kin : DL.Kinds K mg ins exc) (kto : KtOk K mg kt) (n_isinstance : mg "isinstance" = none) (n_len : mg "len" = none) (n_str : mg "str" = none) (n_tuple : mg "tuple" = none) (x_InvalidText : XcB P w K mg base "InvalidText" 1 (fD1 "given")) (y_Mirrors : MkB P w K mg base T "Mirrors" 4 3 O_Mirrors___init__) (cdv : Value) (A : Around) (outer : List Env) (s : Shared) (H : Hp) (E : XK) (c : Fc) (hK : c.K = K) (hM : c.mg = mg) (hT : c.T = T) (fx : Fit (cxOf (L2.CX P w) P w K mg base ["cls", "text", "letters", "words", "size", "angles", "word"] "Mirrors.read" (defScope s_Mirrors_read) f cdv A outer s H E) c) (hr : Room 5 (A.deeper (envOfC "Mirrors.read" (defScope s_Mirrors_read) s.heap.objs.size f cdv))), DSs (cxOf (L2.CX P w) P w K mg base ["cls", "text", "letters", "words", "size", "angles", "word"] "Mirrors.read" (defScope s_Mirrors_read) f cdv A outer s H E) c (defBody s_Mirrors_read) g } :=
  ⟨_, fun P w K mg base T f c_first_wrong c_triple_of k_ALPHABET kin kto n_isinstance n_len n_str n_tuple x_InvalidText y_Mirrors cdv A outer s H E c hK hM hT fx hr => (dss_cons (ds_if (dt_not (dt_tru fx (de_isiC fx kin kto rfl n_isinstance (da_cons (de_v 1) (da_cons (de_ty rfl n_str rfl) da_nil))))) (dss_one (ds_raisC rfl fx.t x_InvalidText hr (by decide) rfl (da_cons (de_v 1) da_nil))) dss_nil) (dss_cons (ds_star (i := 2) (j := 3) fx rfl sc_Mirrors_read.nd rfl rfl (by decide) (.inl rfl) (.inl rfl) (he := (de_split fx (de_v 1) (da_cons de_str da_nil)))) (dss_cons (ds_asg (de_len fx rfl n_len (da_cons (de_v 2) da_nil)) (dg_name (i := 4) sc_Mirrors_read.nd rfl (by first | exact .inl rfl | exact .inr rfl | exact .inr (.inl rfl)))) (dss_cons (ds_asg (de_tuplec fx rfl n_tuple (da_cons (de_comp (own := [("word", 6)]) fx rfl sc_Mirrors_read.nd (di_anyK fx (de_v 3)) (blk_by (by kernel_rfl)) (by decide) (by decide) (fun s1 H1 C1 cl1 fp1 c1 fb1 => (dg_name (i := 6) sc_Mirrors_read.nd rfl (by first | exact .inl rfl | exact .inr rfl | exact .inr (.inl rfl)))) (fun s1 H1 C1 cl1 fp1 c1 fb1 => .nil) (fun s1 H1 C1 cl1 fp1 c1 fb1 => (de_callC (fb1.fit rfl) (fb1.t.trans hT) c_triple_of hr (by decide) rfl (da_cons (de_v 6) da_nil)))) da_nil)) (dg_name (i := 5) sc_Mirrors_read.nd rfl (by first | exact .inl rfl | exact .inr rfl | exact .inr (.inl rfl)))) (dss_cons (ds_if (dt_w (dw_or (dt_eqA fx hr (de_v 4) de_int) (dw_or (dt_neA fx hr (de_v 2) (de_sl fx (de_con fx k_ALPHABET rfl) do_none (do_some (de_v 4)))) (dw_or1 (dt_notN (de_callC fx hT c_first_wrong hr (by decide) rfl (da_cons (de_v 2) (da_cons (de_v 5) da_nil))) de_non))))) (dss_one (ds_raisC rfl fx.t x_InvalidText hr (by decide) rfl (da_cons (de_v 1) da_nil))) dss_nil) (dss_one (ds_ret (de_mkLC (i := 0) fx hT y_Mirrors hr (by decide) rfl (by first | exact .inl rfl | exact .inr (.inl rfl) | exact .inr (.inr rfl)) (da_cons (de_v 4) (da_cons (de_v 5) da_nil))))))))))⟩
def F_Mirrors_read (ds : List D) : Res D := resD (b_Mirrors_read.1 (slots 7 (ds.map .im)))
abbrev s_check_mirrors : Stmt := top 21
theorem sc_check_mirrors : FnScope ["mirrors"] ["mirrors"] (defScope s_check_mirrors) := ⟨rfl, rfl, rfl, by decide +kernel, rfl, by decide +kernel, by decide +kernel⟩
def b_check_mirrors : { g : M Out // ∀ (P : Program) (w : World) (K : PySem.W.Frag) (mg : Str → Option Value) (base : Heap) (T : List (Addr × Str)) (f : Addr) (kin : DL.Kinds K mg ins exc) (kto : KtOk K mg kt) (C_Mirrors : Addr) (m_Mirrors : mg "Mirrors" = some (.ref C_Mirrors)) (n_isinstance : mg "isinstance" = none) (x_NotMirrors : XcB P w K mg base "NotMirrors" 1 (fD1 "given")) (cdv : Value) (A : Around) (outer : List Env) (s : Shared) (H : Hp) (E : XK) (c : Fc) (hK : c.K = K) (hM : c.mg = mg) (hT : c.T = T) (fx : Fit (cxOf (L2.CX P w) P w K mg base ["mirrors"] "check_mirrors" (defScope s_check_mirrors) f cdv A outer s H E) c) (hr : Room 2 (A.deeper (envOfC "check_mirrors" (defScope s_check_mirrors) s.heap.objs.size f cdv))), DSs (cxOf (L2.CX P w) P w K mg base ["mirrors"] "check_mirrors" (defScope s_check_mirrors) f cdv A outer s H E) c (defBody s_check_mirrors) g } :=
  ⟨_, fun P w K mg base T f kin kto C_Mirrors m_Mirrors n_isinstance x_NotMirrors cdv A outer s H E c hK hM hT fx hr => (dss_one (ds_if (dt_not (dt_tru fx (de_isiC fx kin kto rfl n_isinstance (da_cons (de_v 0) (da_cons (de_cl fx rfl m_Mirrors) da_nil))))) (dss_one (ds_raisC rfl fx.t x_NotMirrors hr (by decide) rfl (da_cons (de_v 0) da_nil))) dss_nil))⟩
def F_check_mirrors (ds : List D) : Res D := resD (b_check_mirrors.1 (slots 1 (ds.map .im)))
abbrev s_is_word : Stmt := top 15
theorem sc_is_word : FnScope ["letters", "value", "x"] ["letters", "value"] (defScope s_is_word) := ⟨rfl, rfl, rfl, by decide +kernel, rfl, by decide +kernel, by decide +kernel⟩
def b_is_word : { g : M Out // ∀ (P : Program) (w : World) (K : PySem.W.Frag) (mg : Str → Option Value) (base : Heap) (T : List (Addr × Str)) (f : Addr) (k_MOST_WORD : Con K mg "MOST_WORD" K_MOST_WORD) (kin : DL.Kinds K mg ins exc) (kto : KtOk K mg kt) (n_all : mg "all" = none) (n_isinstance : mg "isinstance" = none) (n_len : mg "len" = none) (n_str : mg "str" = none) (cdv : Value) (A : Around) (outer : List Env) (s : Shared) (H : Hp) (E : XK) (c : Fc) (hK : c.K = K) (hM : c.mg = mg) (hT : c.T = T) (fx : Fit (cxOf (L2.CX P w) P w K mg base ["letters", "value", "x"] "is_word" (defScope s_is_word) f cdv A outer s H E) c) (hr : Room 0 (A.deeper (envOfC "is_word" (defScope s_is_word) s.heap.objs.size f cdv))), DSs (cxOf (L2.CX P w) P w K mg base ["letters", "value", "x"] "is_word" (defScope s_is_word) f cdv A outer s H E) c (defBody s_is_word) g } :=
  ⟨_, fun P w K mg base T f k_MOST_WORD kin kto n_all n_isinstance n_len n_str cdv A outer s H E c hK hM hT fx hr => (dss_one (ds_ret (de_and (de_isiC fx kin kto rfl n_isinstance (da_cons (de_v 1) (da_cons (de_ty rfl n_str rfl) da_nil))) (de_and (de_leA fx hr (de_len fx rfl n_len (da_cons (de_v 1) da_nil)) (de_con fx k_MOST_WORD rfl)) (de_one (de_all fx rfl rfl n_all (da_cons (de_comp (own := [("x", 2)]) fx rfl sc_is_word.nd (di_anyK fx (de_v 1)) (blk_by (by kernel_rfl)) (by decide) (by decide) (fun s1 H1 C1 cl1 fp1 c1 fb1 => (dg_name (i := 2) sc_is_word.nd rfl (by first | exact .inl rfl | exact .inr rfl | exact .inr (.inl rfl)))) (fun s1 H1 C1 cl1 fp1 c1 fb1 => .nil) (fun s1 H1 C1 cl1 fp1 c1 fb1 => (de_in (fb1.fit rfl) (de_v 2) (de_v 0)))) da_nil)))))))⟩
def F_is_word (ds : List D) : Res D := resD (b_is_word.1 (slots 3 (ds.map .im)))
abbrev s_Mirrors_letters : Stmt := inClass (top 20) 4
theorem sc_Mirrors_letters : FnScope ["self"] ["self"] (defScope s_Mirrors_letters) := ⟨rfl, rfl, rfl, by decide +kernel, rfl, by decide +kernel, by decide +kernel⟩
def b_Mirrors_letters : { g : M Out // ∀ (P : Program) (w : World) (K : PySem.W.Frag) (mg : Str → Option Value) (base : Heap) (T : List (Addr × Str)) (f : Addr) (f_Mirrors__letters : FlB K mg "Mirrors" "_letters") (cdv : Value) (A : Around) (outer : List Env) (s : Shared) (H : Hp) (E : XK) (c : Fc) (hK : c.K = K) (hM : c.mg = mg) (hT : c.T = T) (fx : Fit (cxOf (L2.CX P w) P w K mg base ["self"] "Mirrors.letters" (defScope s_Mirrors_letters) f cdv A outer s H E) c) (hr : Room 0 (A.deeper (envOfC "Mirrors.letters" (defScope s_Mirrors_letters) s.heap.objs.size f cdv))), DSs (cxOf (L2.CX P w) P w K mg base ["self"] "Mirrors.letters" (defScope s_Mirrors_letters) f cdv A outer s H E) c (defBody s_Mirrors_letters) g } :=
  ⟨_, fun P w K mg base T f f_Mirrors__letters cdv A outer s H E c hK hM hT fx hr => (dss_one (ds_ret (de_fldC fx f_Mirrors__letters (de_v 0))))⟩
def F_Mirrors_letters (ds : List D) : Res D := resD (b_Mirrors_letters.1 (slots 1 (ds.map .im)))
abbrev s_check_words : Stmt := top 22
theorem sc_check_words : FnScope ["mirrors", "words", "word"] ["mirrors", "words"] (defScope s_check_words) := ⟨rfl, rfl, rfl, by decide +kernel, rfl, by decide +kernel, by decide +kernel⟩
def b_check_words : { g : M Out // ∀ (P : Program) (w : World) (K : PySem.W.Frag) (mg : Str → Option Value) (base : Heap) (T : List (Addr × Str)) (f : Addr) (c_check_mirrors : Cal P w K mg base T "check_mirrors" 3 1 F_check_mirrors) (c_is_word : Cal P w K mg base T "is_word" 1 2 F_is_word) (p_Mirrors_letters : PrB P w K mg base T "Mirrors" "letters" 1 F_Mirrors_letters) (x_InvalidWord : XcB P w K mg base "InvalidWord" 1 (fD1 "given")) (cdv : Value) (A : Around) (outer : List Env) (s : Shared) (H : Hp) (E : XK) (c : Fc) (hK : c.K = K) (hM : c.mg = mg) (hT : c.T = T) (fx : Fit (cxOf (L2.CX P w) P w K mg base ["mirrors", "words", "word"] "check_words" (defScope s_check_words) f cdv A outer s H E) c) (hr : Room 3 (A.deeper (envOfC "check_words" (defScope s_check_words) s.heap.objs.size f cdv))), DSs (cxOf (L2.CX P w) P w K mg base ["mirrors", "words", "word"] "check_words" (defScope s_check_words) f cdv A outer s H E) c (defBody s_check_words) g } :=
  ⟨_, fun P w K mg base T f c_check_mirrors c_is_word p_Mirrors_letters x_InvalidWord cdv A outer s H E c hK hM hT fx hr => (dss_cons (ds_expr (de_callC fx hT c_check_mirrors hr (by decide) rfl (da_cons (de_v 0) da_nil))) (dss_one (ds_for (passes_of rfl) rfl (di_anyK fx (de_v 1)) (dg_name (i := 2) sc_check_words.nd rfl (by first | exact .inl rfl | exact .inr rfl | exact .inr (.inl rfl))) (dss_one (ds_if (dt_not (dt_tru fx (de_callC fx hT c_is_word hr (by decide) rfl (da_cons (de_propC fx hT p_Mirrors_letters hr (by decide) (de_v 0)) (da_cons (de_v 2) da_nil))))) (dss_one (ds_raisC rfl fx.t x_InvalidWord hr (by decide) rfl (da_cons (de_v 2) da_nil))) dss_nil)))))⟩
def F_check_words (ds : List D) : Res D := resD (b_check_words.1 (slots 3 ((packD 1 ds).map .im)))
abbrev s_Mirrors_size : Stmt := inClass (top 20) 2
theorem sc_Mirrors_size : FnScope ["self"] ["self"] (defScope s_Mirrors_size) := ⟨rfl, rfl, rfl, by decide +kernel, rfl, by decide +kernel, by decide +kernel⟩
def b_Mirrors_size : { g : M Out // ∀ (P : Program) (w : World) (K : PySem.W.Frag) (mg : Str → Option Value) (base : Heap) (T : List (Addr × Str)) (f : Addr) (f_Mirrors__letters : FlB K mg "Mirrors" "_letters") (n_len : mg "len" = none) (cdv : Value) (A : Around) (outer : List Env) (s : Shared) (H : Hp) (E : XK) (c : Fc) (hK : c.K = K) (hM : c.mg = mg) (hT : c.T = T) (fx : Fit (cxOf (L2.CX P w) P w K mg base ["self"] "Mirrors.size" (defScope s_Mirrors_size) f cdv A outer s H E) c) (hr : Room 0 (A.deeper (envOfC "Mirrors.size" (defScope s_Mirrors_size) s.heap.objs.size f cdv))), DSs (cxOf (L2.CX P w) P w K mg base ["self"] "Mirrors.size" (defScope s_Mirrors_size) f cdv A outer s H E) c (defBody s_Mirrors_size) g } :=
  ⟨_, fun P w K mg base T f f_Mirrors__letters n_len cdv A outer s H E c hK hM hT fx hr => (dss_one (ds_ret (de_len fx rfl n_len (da_cons (de_fldC fx f_Mirrors__letters (de_v 0)) da_nil))))⟩
def F_Mirrors_size (ds : List D) : Res D := resD (b_Mirrors_size.1 (slots 1 (ds.map .im)))
abbrev s_check_row : Stmt := top 39
theorem sc_check_row : FnScope ["mirrors", "row", "index", "number"] ["mirrors", "row"] (defScope s_check_row) := ⟨rfl, rfl, rfl, by decide +kernel, rfl, by decide +kernel, by decide +kernel⟩
def b_check_row : { g : M Out // ∀ (P : Program) (w : World) (K : PySem.W.Frag) (mg : Str → Option Value) (base : Heap) (T : List (Addr × Str)) (f : Addr) (c_is_integer : Cal P w K mg base T "is_integer" 1 1 F_is_integer) (kin : DL.Kinds K mg ins exc) (kto : KtOk K mg kt) (n_enumerate : mg "enumerate" = none) (n_isinstance : mg "isinstance" = none) (n_len : mg "len" = none) (n_tuple : mg "tuple" = none) (p_Mirrors_size : PrB P w K mg base T "Mirrors" "size" 1 F_Mirrors_size) (x_InvalidRow : XcB P w K mg base "InvalidRow" 1 (fD1 "index")) (cdv : Value) (A : Around) (outer : List Env) (s : Shared) (H : Hp) (E : XK) (c : Fc) (hK : c.K = K) (hM : c.mg = mg) (hT : c.T = T) (fx : Fit (cxOf (L2.CX P w) P w K mg base ["mirrors", "row", "index", "number"] "check_row" (defScope s_check_row) f cdv A outer s H E) c) (hr : Room 2 (A.deeper (envOfC "check_row" (defScope s_check_row) s.heap.objs.size f cdv))), DSs (cxOf (L2.CX P w) P w K mg base ["mirrors", "row", "index", "number"] "check_row" (defScope s_check_row) f cdv A outer s H E) c (defBody s_check_row) g } :=
  ⟨_, fun P w K mg base T f c_is_integer kin kto n_enumerate n_isinstance n_len n_tuple p_Mirrors_size x_InvalidRow cdv A outer s H E c hK hM hT fx hr => (dss_cons (ds_if (dt_w (dw_or (dt_not (dt_tru fx (de_isiC fx kin kto rfl n_isinstance (da_cons (de_v 1) (da_cons (de_ty rfl n_tuple rfl) da_nil))))) (dw_or1 (dt_neA fx hr (de_len fx rfl n_len (da_cons (de_v 1) da_nil)) (de_propC fx hT p_Mirrors_size hr (by decide) (de_v 0)))))) (dss_one (ds_raisC rfl fx.t x_InvalidRow hr (by decide) rfl (da_cons de_non da_nil))) dss_nil) (dss_one (ds_for (passes_of rfl) rfl (di_enumA fx rfl n_enumerate (da_cons (de_v 1) da_nil)) (dg_tup (n := 2) fx rfl (dgs_cons (dg_name (i := 2) sc_check_row.nd rfl (by first | exact .inl rfl | exact .inr rfl | exact .inr (.inl rfl))) (dgs_cons (dg_name (i := 3) sc_check_row.nd rfl (by first | exact .inl rfl | exact .inr rfl | exact .inr (.inl rfl))) dgs_nil))) (dss_one (ds_if (dt_not (dt_tru fx (de_callC fx hT c_is_integer hr (by decide) rfl (da_cons (de_v 3) da_nil)))) (dss_one (ds_raisC rfl fx.t x_InvalidRow hr (by decide) rfl (da_cons (de_v 2) da_nil))) dss_nil)))))⟩
def F_check_row (ds : List D) : Res D := resD (b_check_row.1 (slots 4 (ds.map .im)))
abbrev s_send_by_letter : Stmt := top 34
theorem sc_send_by_letter : FnScope ["shares", "letter", "row", "at", "more", "share", "number"] ["shares", "letter", "row"] (defScope s_send_by_letter) := ⟨rfl, rfl, rfl, by decide +kernel, rfl, by decide +kernel, by decide +kernel⟩
def b_send_by_letter : { g : M Out // ∀ (P : Program) (w : World) (K : PySem.W.Frag) (mg : Str → Option Value) (base : Heap) (T : List (Addr × Str)) (f : Addr) (k_ALPHABET : Con K mg "ALPHABET" K_ALPHABET) (n_sum : mg "sum" = none) (n_zip : mg "zip" = none) (cdv : Value) (A : Around) (outer : List Env) (s : Shared) (H : Hp) (E : XK) (c : Fc) (hK : c.K = K) (hM : c.mg = mg) (hT : c.T = T) (fx : Fit (cxOf (L2.CX P w) P w K mg base ["shares", "letter", "row", "at", "more", "share", "number"] "send_by_letter" (defScope s_send_by_letter) f cdv A outer s H E) c) (hr : Room 0 (A.deeper (envOfC "send_by_letter" (defScope s_send_by_letter) s.heap.objs.size f cdv))), DSs (cxOf (L2.CX P w) P w K mg base ["shares", "letter", "row", "at", "more", "share", "number"] "send_by_letter" (defScope s_send_by_letter) f cdv A outer s H E) c (defBody s_send_by_letter) g } :=
  ⟨_, fun P w K mg base T f k_ALPHABET n_sum n_zip cdv A outer s H E c hK hM hT fx hr => (dss_cons (ds_asg (de_sindex (de_con fx k_ALPHABET rfl) (da_cons (de_v 1) da_nil)) (dg_name (i := 3) sc_send_by_letter.nd rfl (by first | exact .inl rfl | exact .inr rfl | exact .inr (.inl rfl)))) (dss_cons (ds_asg (de_sum fx rfl rfl n_sum (da_cons (de_comp (own := [("share", 5), ("number", 6)]) fx rfl sc_send_by_letter.nd (di_zip2 fx rfl n_zip (da_cons (de_ixA fx hr (de_v 0) (de_v 1)) (da_cons (de_v 2) da_nil))) (blk_by (by kernel_rfl)) (by decide) (by decide) (fun s1 H1 C1 cl1 fp1 c1 fb1 => (dg_tup (n := 2) (fb1.fit rfl) rfl (dgs_cons (dg_name (i := 5) sc_send_by_letter.nd rfl (by first | exact .inl rfl | exact .inr rfl | exact .inr (.inl rfl))) (dgs_cons (dg_name (i := 6) sc_send_by_letter.nd rfl (by first | exact .inl rfl | exact .inr rfl | exact .inr (.inl rfl))) dgs_nil)))) (fun s1 H1 C1 cl1 fp1 c1 fb1 => .nil) (fun s1 H1 C1 cl1 fp1 c1 fb1 => (de_mul (de_v 5) (de_v 6)))) da_nil)) (dg_name (i := 4) sc_send_by_letter.nd rfl (by first | exact .inl rfl | exact .inr rfl | exact .inr (.inl rfl)))) (dss_one (ds_ret (de_add fx (de_add fx (de_sl fx (de_v 2) do_none (do_some (de_v 3))) (de_tup (da_cons (de_add fx (de_ixA fx hr (de_v 2) (de_v 3)) (de_v 4)) da_nil))) (de_sl fx (de_v 2) (do_some (de_add fx (de_v 3) de_int)) do_none))))))⟩
def F_send_by_letter (ds : List D) : Res D := resD (b_send_by_letter.1 (slots 7 (ds.map .im)))
abbrev s_send_by_word : Stmt := top 35
theorem sc_send_by_word : FnScope ["shares", "word", "row", "letter"] ["shares", "word", "row"] (defScope s_send_by_word) := ⟨rfl, rfl, rfl, by decide +kernel, rfl, by decide +kernel, by decide +kernel⟩
def b_send_by_word : { g : M Out // ∀ (P : Program) (w : World) (K : PySem.W.Frag) (mg : Str → Option Value) (base : Heap) (T : List (Addr × Str)) (f : Addr) (c_send_by_letter : Cal P w K mg base T "send_by_letter" 1 3 F_send_by_letter) (n_reversed : mg "reversed" = none) (cdv : Value) (A : Around) (outer : List Env) (s : Shared) (H : Hp) (E : XK) (c : Fc) (hK : c.K = K) (hM : c.mg = mg) (hT : c.T = T) (fx : Fit (cxOf (L2.CX P w) P w K mg base ["shares", "word", "row", "letter"] "send_by_word" (defScope s_send_by_word) f cdv A outer s H E) c) (hr : Room 1 (A.deeper (envOfC "send_by_word" (defScope s_send_by_word) s.heap.objs.size f cdv))), DSs (cxOf (L2.CX P w) P w K mg base ["shares", "word", "row", "letter"] "send_by_word" (defScope s_send_by_word) f cdv A outer s H E) c (defBody s_send_by_word) g } :=
  ⟨_, fun P w K mg base T f c_send_by_letter n_reversed cdv A outer s H E c hK hM hT fx hr => (dss_cons (ds_for (passes_of rfl) rfl (di_revS fx rfl n_reversed (de_v 1)) (dg_name (i := 3) sc_send_by_word.nd rfl (by first | exact .inl rfl | exact .inr rfl | exact .inr (.inl rfl))) (dss_one (ds_asg (de_callC fx hT c_send_by_letter hr (by decide) rfl (da_cons (de_v 0) (da_cons (de_v 3) (da_cons (de_v 2) da_nil)))) (dg_name (i := 2) sc_send_by_word.nd rfl (by first | exact .inl rfl | exact .inr rfl | exact .inr (.inl rfl)))))) (dss_one (ds_ret (de_v 2))))⟩
def F_send_by_word (ds : List D) : Res D := resD (b_send_by_word.1 (slots 4 (ds.map .im)))
abbrev s_Mirrors_angles : Stmt := inClass (top 20) 3
theorem sc_Mirrors_angles : FnScope ["self"] ["self"] (defScope s_Mirrors_angles) := ⟨rfl, rfl, rfl, by decide +kernel, rfl, by decide +kernel, by decide +kernel⟩
def b_Mirrors_angles : { g : M Out // ∀ (P : Program) (w : World) (K : PySem.W.Frag) (mg : Str → Option Value) (base : Heap) (T : List (Addr × Str)) (f : Addr) (f_Mirrors__angles : FlB K mg "Mirrors" "_angles") (cdv : Value) (A : Around) (outer : List Env) (s : Shared) (H : Hp) (E : XK) (c : Fc) (hK : c.K = K) (hM : c.mg = mg) (hT : c.T = T) (fx : Fit (cxOf (L2.CX P w) P w K mg base ["self"] "Mirrors.angles" (defScope s_Mirrors_angles) f cdv A outer s H E) c) (hr : Room 0 (A.deeper (envOfC "Mirrors.angles" (defScope s_Mirrors_angles) s.heap.objs.size f cdv))), DSs (cxOf (L2.CX P w) P w K mg base ["self"] "Mirrors.angles" (defScope s_Mirrors_angles) f cdv A outer s H E) c (defBody s_Mirrors_angles) g } :=
  ⟨_, fun P w K mg base T f f_Mirrors__angles cdv A outer s H E c hK hM hT fx hr => (dss_one (ds_ret (de_fldC fx f_Mirrors__angles (de_v 0))))⟩
def F_Mirrors_angles (ds : List D) : Res D := resD (b_Mirrors_angles.1 (slots 1 (ds.map .im)))
abbrev s_number_between : Stmt := top 23
theorem sc_number_between : FnScope ["mirrors", "low", "high", "x", "y", "number"] ["mirrors", "low", "high"] (defScope s_number_between) := ⟨rfl, rfl, rfl, by decide +kernel, rfl, by decide +kernel, by decide +kernel⟩
def b_number_between : { g : M Out // ∀ (P : Program) (w : World) (K : PySem.W.Frag) (mg : Str → Option Value) (base : Heap) (T : List (Addr × Str)) (f : Addr) (k_PLAIN_NUMBER : Con K mg "PLAIN_NUMBER" K_PLAIN_NUMBER) (p_Mirrors_angles : PrB P w K mg base T "Mirrors" "angles" 1 F_Mirrors_angles) (cdv : Value) (A : Around) (outer : List Env) (s : Shared) (H : Hp) (E : XK) (c : Fc) (hK : c.K = K) (hM : c.mg = mg) (hT : c.T = T) (fx : Fit (cxOf (L2.CX P w) P w K mg base ["mirrors", "low", "high", "x", "y", "number"] "number_between" (defScope s_number_between) f cdv A outer s H E) c) (hr : Room 2 (A.deeper (envOfC "number_between" (defScope s_number_between) s.heap.objs.size f cdv))), DSs (cxOf (L2.CX P w) P w K mg base ["mirrors", "low", "high", "x", "y", "number"] "number_between" (defScope s_number_between) f cdv A outer s H E) c (defBody s_number_between) g } :=
  ⟨_, fun P w K mg base T f k_PLAIN_NUMBER p_Mirrors_angles cdv A outer s H E c hK hM hT fx hr => (dss_cons (ds_for (passes_of rfl) rfl (di_anyK fx (de_propC fx hT p_Mirrors_angles hr (by decide) (de_v 0))) (dg_tup (n := 3) fx rfl (dgs_cons (dg_name (i := 3) sc_number_between.nd rfl (by first | exact .inl rfl | exact .inr rfl | exact .inr (.inl rfl))) (dgs_cons (dg_name (i := 4) sc_number_between.nd rfl (by first | exact .inl rfl | exact .inr rfl | exact .inr (.inl rfl))) (dgs_cons (dg_name (i := 5) sc_number_between.nd rfl (by first | exact .inl rfl | exact .inr rfl | exact .inr (.inl rfl))) dgs_nil)))) (dss_one (ds_if (dt_w (dw_and (dt_eqA fx hr (de_v 3) (de_v 1)) (dw_and1 (dt_eqA fx hr (de_v 4) (de_v 2))))) (dss_one (ds_ret (de_v 5))) dss_nil))) (dss_one (ds_ret (de_con fx k_PLAIN_NUMBER rfl))))⟩
def F_number_between (ds : List D) : Res D := resD (b_number_between.1 (slots 6 (ds.map .im)))
abbrev s_share_between : Stmt := top 32
theorem sc_share_between : FnScope ["mirrors", "letter", "mate", "number"] ["mirrors", "letter", "mate"] (defScope s_share_between) := ⟨rfl, rfl, rfl, by decide +kernel, rfl, by decide +kernel, by decide +kernel⟩
def b_share_between : { g : M Out // ∀ (P : Program) (w : World) (K : PySem.W.Frag) (mg : Str → Option Value) (base : Heap) (T : List (Addr × Str)) (f : Addr) (c_number_between : Cal P w K mg base T "number_between" 3 3 F_number_between) (d_SHARES_OF_GREATER : KDB P w K mg "SHARES_OF_GREATER" KD_SHARES_OF_GREATER) (d_SHARES_OF_LESSER : KDB P w K mg "SHARES_OF_LESSER" KD_SHARES_OF_LESSER) (n_max : mg "max" = none) (n_min : mg "min" = none) (cdv : Value) (A : Around) (outer : List Env) (s : Shared) (H : Hp) (E : XK) (c : Fc) (hK : c.K = K) (hM : c.mg = mg) (hT : c.T = T) (fx : Fit (cxOf (L2.CX P w) P w K mg base ["mirrors", "letter", "mate", "number"] "share_between" (defScope s_share_between) f cdv A outer s H E) c) (hr : Room 3 (A.deeper (envOfC "share_between" (defScope s_share_between) s.heap.objs.size f cdv))), DSs (cxOf (L2.CX P w) P w K mg base ["mirrors", "letter", "mate", "number"] "share_between" (defScope s_share_between) f cdv A outer s H E) c (defBody s_share_between) g } :=
  ⟨_, fun P w K mg base T f c_number_between d_SHARES_OF_GREATER d_SHARES_OF_LESSER n_max n_min cdv A outer s H E c hK hM hT fx hr => (dss_cons (ds_if (dt_eqA fx hr (de_v 1) (de_v 2)) (dss_one (ds_ret (de_neg de_int))) dss_nil) (dss_cons (ds_asg (de_callC fx hT c_number_between hr (by decide) rfl (da_cons (de_v 0) (da_cons (de_minA rfl rfl n_min (da_cons (de_v 1) (da_cons (de_v 2) da_nil))) (da_cons (de_maxA rfl rfl n_max (da_cons (de_v 1) (da_cons (de_v 2) da_nil))) da_nil)))) (dg_name (i := 3) sc_share_between.nd rfl (by first | exact .inl rfl | exact .inr rfl | exact .inr (.inl rfl)))) (dss_one (ds_ret (de_ifx (dt_lt (de_v 1) (de_v 2)) (de_kdx fx d_SHARES_OF_LESSER rfl (de_v 3)) (de_kdx fx d_SHARES_OF_GREATER rfl (de_v 3)))))))⟩
def F_share_between (ds : List D) : Res D := resD (b_share_between.1 (slots 4 (ds.map .im)))
abbrev s_shares_of : Stmt := top 31
theorem sc_shares_of : FnScope ["mirrors", "x", "y"] ["mirrors"] (defScope s_shares_of) := ⟨rfl, rfl, rfl, by decide +kernel, rfl, by decide +kernel, by decide +kernel⟩
def b_shares_of : { g : M Out // ∀ (P : Program) (w : World) (K : PySem.W.Frag) (mg : Str → Option Value) (base : Heap) (T : List (Addr × Str)) (f : Addr) (c_share_between : Cal P w K mg base T "share_between" 4 3 F_share_between) (n_tuple : mg "tuple" = none) (p_Mirrors_letters : PrB P w K mg base T "Mirrors" "letters" 1 F_Mirrors_letters) (cdv : Value) (A : Around) (outer : List Env) (s : Shared) (H : Hp) (E : XK) (c : Fc) (hK : c.K = K) (hM : c.mg = mg) (hT : c.T = T) (fx : Fit (cxOf (L2.CX P w) P w K mg base ["mirrors", "x", "y"] "shares_of" (defScope s_shares_of) f cdv A outer s H E) c) (hr : Room 4 (A.deeper (envOfC "shares_of" (defScope s_shares_of) s.heap.objs.size f cdv))), DSs (cxOf (L2.CX P w) P w K mg base ["mirrors", "x", "y"] "shares_of" (defScope s_shares_of) f cdv A outer s H E) c (defBody s_shares_of) g } :=
  ⟨_, fun P w K mg base T f c_share_between n_tuple p_Mirrors_letters cdv A outer s H E c hK hM hT fx hr => (dss_one (ds_ret (de_dc (own := [("x", 1)]) fx rfl sc_shares_of.nd (di_anyK fx (de_propC fx hT p_Mirrors_letters hr (by decide) (de_v 0))) (blk_by (by kernel_rfl)) (by decide) (by decide) (fun s1 H1 C1 cl1 fp1 c1 fb1 => (dg_name (i := 1) sc_shares_of.nd rfl (by first | exact .inl rfl | exact .inr rfl | exact .inr (.inl rfl)))) (fun s1 H1 C1 cl1 fp1 c1 fb1 => .nil) (fun s1 H1 C1 cl1 fp1 c1 fb1 => (de_v 1)) (fun s1 H1 C1 cl1 fp1 c1 fb1 => (de_tuplec (fb1.fit rfl) rfl n_tuple (da_cons (de_comp (own := [("y", 2)]) (fb1.fit rfl) rfl sc_shares_of.nd (di_anyK (fb1.fit rfl) (de_propC (fb1.fit rfl) (fb1.t.trans hT) p_Mirrors_letters hr (by decide) (de_v 0))) (blk_by (by kernel_rfl)) (by decide) (by decide) (fun s2 H2 C2 cl2 fp2 c2 fb2 => (dg_name (i := 2) sc_shares_of.nd rfl (by first | exact .inl rfl | exact .inr rfl | exact .inr (.inl rfl)))) (fun s2 H2 C2 cl2 fp2 c2 fb2 => .nil) (fun s2 H2 C2 cl2 fp2 c2 fb2 => (de_callC (fb2.fit rfl) (fb2.t.trans (fb1.t.trans hT)) c_share_between hr (by decide) rfl (da_cons (de_v 0) (da_cons (de_v 1) (da_cons (de_v 2) da_nil)))))) da_nil))))))⟩
def F_shares_of (ds : List D) : Res D := resD (b_shares_of.1 (slots 3 (ds.map .im)))
abbrev s_send : Stmt := top 37
theorem sc_send : FnScope ["mirrors", "word", "row"] ["mirrors", "word", "row"] (defScope s_send) := ⟨rfl, rfl, rfl, by decide +kernel, rfl, by decide +kernel, by decide +kernel⟩
def b_send : { g : M Out // ∀ (P : Program) (w : World) (K : PySem.W.Frag) (mg : Str → Option Value) (base : Heap) (T : List (Addr × Str)) (f : Addr) (c_check_row : Cal P w K mg base T "check_row" 3 2 F_check_row) (c_send_by_word : Cal P w K mg base T "send_by_word" 2 3 F_send_by_word) (c_shares_of : Cal P w K mg base T "shares_of" 5 1 F_shares_of) (r_check_words : CalR P w K mg base T "check_words" 4 1 F_check_words) (cdv : Value) (A : Around) (outer : List Env) (s : Shared) (H : Hp) (E : XK) (c : Fc) (hK : c.K = K) (hM : c.mg = mg) (hT : c.T = T) (fx : Fit (cxOf (L2.CX P w) P w K mg base ["mirrors", "word", "row"] "send" (defScope s_send) f cdv A outer s H E) c) (hr : Room 5 (A.deeper (envOfC "send" (defScope s_send) s.heap.objs.size f cdv))), DSs (cxOf (L2.CX P w) P w K mg base ["mirrors", "word", "row"] "send" (defScope s_send) f cdv A outer s H E) c (defBody s_send) g } :=
  ⟨_, fun P w K mg base T f c_check_row c_send_by_word c_shares_of r_check_words cdv A outer s H E c hK hM hT fx hr => (dss_cons (ds_expr (de_callRC fx hT r_check_words hr (by decide) rfl (da_cons (de_v 0) (da_cons (de_v 1) da_nil)))) (dss_cons (ds_expr (de_callC fx hT c_check_row hr (by decide) rfl (da_cons (de_v 0) (da_cons (de_v 2) da_nil)))) (dss_one (ds_ret (de_callC fx hT c_send_by_word hr (by decide) rfl (da_cons (de_callC fx hT c_shares_of hr (by decide) rfl (da_cons (de_v 0) da_nil)) (da_cons (de_v 1) (da_cons (de_v 2) da_nil))))))))⟩
def F_send (ds : List D) : Res D := resD (b_send.1 (slots 3 (ds.map .im)))
abbrev s_single_row : Stmt := top 33
theorem sc_single_row : FnScope ["shares", "letter", "x"] ["shares", "letter"] (defScope s_single_row) := ⟨rfl, rfl, rfl, by decide +kernel, rfl, by decide +kernel, by decide +kernel⟩
def b_single_row : { g : M Out // ∀ (P : Program) (w : World) (K : PySem.W.Frag) (mg : Str → Option Value) (base : Heap) (T : List (Addr × Str)) (f : Addr) (n_tuple : mg "tuple" = none) (cdv : Value) (A : Around) (outer : List Env) (s : Shared) (H : Hp) (E : XK) (c : Fc) (hK : c.K = K) (hM : c.mg = mg) (hT : c.T = T) (fx : Fit (cxOf (L2.CX P w) P w K mg base ["shares", "letter", "x"] "single_row" (defScope s_single_row) f cdv A outer s H E) c) (hr : Room 0 (A.deeper (envOfC "single_row" (defScope s_single_row) s.heap.objs.size f cdv))), DSs (cxOf (L2.CX P w) P w K mg base ["shares", "letter", "x"] "single_row" (defScope s_single_row) f cdv A outer s H E) c (defBody s_single_row) g } :=
  ⟨_, fun P w K mg base T f n_tuple cdv A outer s H E c hK hM hT fx hr => (dss_one (ds_ret (de_tuplec fx rfl n_tuple (da_cons (de_comp (own := [("x", 2)]) fx rfl sc_single_row.nd (di_anyK fx (de_v 0)) (blk_by (by kernel_rfl)) (by decide) (by decide) (fun s1 H1 C1 cl1 fp1 c1 fb1 => (dg_name (i := 2) sc_single_row.nd rfl (by first | exact .inl rfl | exact .inr rfl | exact .inr (.inl rfl)))) (fun s1 H1 C1 cl1 fp1 c1 fb1 => .nil) (fun s1 H1 C1 cl1 fp1 c1 fb1 => (de_ifx (dt_eqA (fb1.fit rfl) hr (de_v 2) (de_v 1)) de_int de_int))) da_nil))))⟩
def F_single_row (ds : List D) : Res D := resD (b_single_row.1 (slots 3 (ds.map .im)))
abbrev s_rows_of : Stmt := top 38
theorem sc_rows_of : FnScope ["mirrors", "word", "shares", "letter"] ["mirrors", "word"] (defScope s_rows_of) := ⟨rfl, rfl, rfl, by decide +kernel, rfl, by decide +kernel, by decide +kernel⟩
def b_rows_of : { g : M Out // ∀ (P : Program) (w : World) (K : PySem.W.Frag) (mg : Str → Option Value) (base : Heap) (T : List (Addr × Str)) (f : Addr) (c_send_by_word : Cal P w K mg base T "send_by_word" 2 3 F_send_by_word) (c_shares_of : Cal P w K mg base T "shares_of" 5 1 F_shares_of) (c_single_row : Cal P w K mg base T "single_row" 1 2 F_single_row) (n_tuple : mg "tuple" = none) (p_Mirrors_letters : PrB P w K mg base T "Mirrors" "letters" 1 F_Mirrors_letters) (r_check_words : CalR P w K mg base T "check_words" 4 1 F_check_words) (cdv : Value) (A : Around) (outer : List Env) (s : Shared) (H : Hp) (E : XK) (c : Fc) (hK : c.K = K) (hM : c.mg = mg) (hT : c.T = T) (fx : Fit (cxOf (L2.CX P w) P w K mg base ["mirrors", "word", "shares", "letter"] "rows_of" (defScope s_rows_of) f cdv A outer s H E) c) (hr : Room 5 (A.deeper (envOfC "rows_of" (defScope s_rows_of) s.heap.objs.size f cdv))), DSs (cxOf (L2.CX P w) P w K mg base ["mirrors", "word", "shares", "letter"] "rows_of" (defScope s_rows_of) f cdv A outer s H E) c (defBody s_rows_of) g } :=
  ⟨_, fun P w K mg base T f c_send_by_word c_shares_of c_single_row n_tuple p_Mirrors_letters r_check_words cdv A outer s H E c hK hM hT fx hr => (dss_cons (ds_expr (de_callRC fx hT r_check_words hr (by decide) rfl (da_cons (de_v 0) (da_cons (de_v 1) da_nil)))) (dss_cons (ds_asg (de_callC fx hT c_shares_of hr (by decide) rfl (da_cons (de_v 0) da_nil)) (dg_name (i := 2) sc_rows_of.nd rfl (by first | exact .inl rfl | exact .inr rfl | exact .inr (.inl rfl)))) (dss_one (ds_ret (de_tuplec fx rfl n_tuple (da_cons (de_comp (own := [("letter", 3)]) fx rfl sc_rows_of.nd (di_anyK fx (de_propC fx hT p_Mirrors_letters hr (by decide) (de_v 0))) (blk_by (by kernel_rfl)) (by decide) (by decide) (fun s1 H1 C1 cl1 fp1 c1 fb1 => (dg_name (i := 3) sc_rows_of.nd rfl (by first | exact .inl rfl | exact .inr rfl | exact .inr (.inl rfl)))) (fun s1 H1 C1 cl1 fp1 c1 fb1 => .nil) (fun s1 H1 C1 cl1 fp1 c1 fb1 => (de_callC (fb1.fit rfl) (fb1.t.trans hT) c_send_by_word hr (by decide) rfl (da_cons (de_v 2) (da_cons (de_v 1) (da_cons (de_callC (fb1.fit rfl) (fb1.t.trans hT) c_single_row hr (by decide) rfl (da_cons (de_v 2) (da_cons (de_v 3) da_nil))) da_nil)))))) da_nil))))))⟩
def F_rows_of (ds : List D) : Res D := resD (b_rows_of.1 (slots 4 (ds.map .im)))
abbrev s__law_sip : Stmt := top 42
theorem sc__law_sip : FnScope ["tub", "top", "digit"] ["tub", "top"] (defScope s__law_sip) := ⟨rfl, rfl, rfl, by decide +kernel, rfl, by decide +kernel, by decide +kernel⟩
def b__law_sip : { g : M Out // ∀ (P : Program) (w : World) (K : PySem.W.Frag) (mg : Str → Option Value) (base : Heap) (T : List (Addr × Str)) (f : Addr) (n_int : mg "int" = none) (cdv : Value) (A : Around) (outer : List Env) (s : Shared) (H : Hp) (E : XK) (c : Fc) (hK : c.K = K) (hM : c.mg = mg) (hT : c.T = T) (fx : Fit (cxOf (L2.CX P w) P w K mg base ["tub", "top", "digit"] "_law_sip" (defScope s__law_sip) f cdv A outer s H E) c) (hr : Room 0 (A.deeper (envOfC "_law_sip" (defScope s__law_sip) s.heap.objs.size f cdv))), DSs (cxOf (L2.CX P w) P w K mg base ["tub", "top", "digit"] "_law_sip" (defScope s__law_sip) f cdv A outer s H E) c (defBody s__law_sip) g } :=
  ⟨_, fun P w K mg base T f n_int cdv A outer s H E c hK hM hT fx hr => (dss_cons (ds_putO (i := 0) rfl (by first | exact .inl rfl | exact .inr (.inl rfl) | exact .inr (.inr rfl)) (de_add fx (de_ixO (i := 0) fx rfl (by first | exact .inl rfl | exact .inr (.inl rfl) | exact .inr (.inr rfl)) de_int) de_int) de_int (pg_sub (pe_var rfl (by first | exact .inl rfl | exact .inr (.inl rfl) | exact .inr (.inr rfl))) de_int set_list)) (dss_cons (ds_if (dt_gt (de_ixO (i := 0) fx rfl (by first | exact .inl rfl | exact .inr (.inl rfl) | exact .inr (.inr rfl)) de_int) de_int) (dss_cons (ds_asg (de_mod (de_intc rfl n_int (da_cons (de_ixO (i := 0) fx rfl (by first | exact .inl rfl | exact .inr (.inl rfl) | exact .inr (.inr rfl)) de_int) da_nil)) (de_v 1)) (dg_name (i := 2) sc__law_sip.nd rfl (by first | exact .inl rfl | exact .inr rfl | exact .inr (.inl rfl)))) (dss_cons (ds_putO (i := 0) rfl (by first | exact .inl rfl | exact .inr (.inl rfl) | exact .inr (.inr rfl)) (de_divW (de_intc rfl n_int (da_cons (de_ixO (i := 0) fx rfl (by first | exact .inl rfl | exact .inr (.inl rfl) | exact .inr (.inr rfl)) de_int) da_nil)) (de_v 1)) de_int (pg_sub (pe_var rfl (by first | exact .inl rfl | exact .inr (.inl rfl) | exact .inr (.inr rfl))) de_int set_list)) (dss_one (ds_ret (de_v 2))))) dss_nil) (dss_cons (ds_putO (i := 0) rfl (by first | exact .inl rfl | exact .inr (.inl rfl) | exact .inr (.inr rfl)) (de_mod (de_intc rfl n_int (da_cons (de_add fx (de_add fx (de_mul (de_ixO (i := 0) fx rfl (by first | exact .inl rfl | exact .inr (.inl rfl) | exact .inr (.inr rfl)) de_int) de_int) (de_mul de_int (de_ixO (i := 0) fx rfl (by first | exact .inl rfl | exact .inr (.inl rfl) | exact .inr (.inr rfl)) de_int))) de_int) da_nil)) de_int) de_int (pg_sub (pe_var rfl (by first | exact .inl rfl | exact .inr (.inl rfl) | exact .inr (.inr rfl))) de_int set_list)) (dss_one (ds_ret (de_mod (de_intc rfl n_int (da_cons (de_divW (de_ixO (i := 0) fx rfl (by first | exact .inl rfl | exact .inr (.inl rfl) | exact .inr (.inr rfl)) de_int) de_int) da_nil)) (de_v 1)))))))⟩
def O__law_sip (t : D) (ds : List D) : Res (D × D) := resB (b__law_sip.1 (slots 3 (.bo t :: ds.map .im)))
abbrev s__law_pick : Stmt := top 43
theorem sc__law_pick : FnScope ["tub", "menu"] ["tub", "menu"] (defScope s__law_pick) := ⟨rfl, rfl, rfl, by decide +kernel, rfl, by decide +kernel, by decide +kernel⟩
def b__law_pick : { g : M Out // ∀ (P : Program) (w : World) (K : PySem.W.Frag) (mg : Str → Option Value) (base : Heap) (T : List (Addr × Str)) (f : Addr) (n_len : mg "len" = none) (o__law_sip : CalO P w K mg base T "_law_sip" 1 2 O__law_sip) (cdv : Value) (A : Around) (outer : List Env) (s : Shared) (H : Hp) (E : XK) (c : Fc) (hK : c.K = K) (hM : c.mg = mg) (hT : c.T = T) (fx : Fit (cxOf (L2.CX P w) P w K mg base ["tub", "menu"] "_law_pick" (defScope s__law_pick) f cdv A outer s H E) c) (hr : Room 1 (A.deeper (envOfC "_law_pick" (defScope s__law_pick) s.heap.objs.size f cdv))), DSs (cxOf (L2.CX P w) P w K mg base ["tub", "menu"] "_law_pick" (defScope s__law_pick) f cdv A outer s H E) c (defBody s__law_pick) g } :=
  ⟨_, fun P w K mg base T f n_len o__law_sip cdv A outer s H E c hK hM hT fx hr => (dss_one (ds_ret (de_ixA fx hr (de_v 1) (de_callOC (i := 0) fx hT o__law_sip hr (by decide) rfl rfl (by first | exact .inl rfl | exact .inr (.inl rfl) | exact .inr (.inr rfl)) (da_cons (de_len fx rfl n_len (da_cons (de_v 1) da_nil)) da_nil)))))⟩
def O__law_pick (t : D) (ds : List D) : Res (D × D) := resB (b__law_pick.1 (slots 2 (.bo t :: ds.map .im)))
abbrev s__law_plan : Stmt := top 44
theorem sc__law_plan : FnScope ["tub", "most", "many", "found", "i", "j", "m"] ["tub", "most"] (defScope s__law_plan) := ⟨rfl, rfl, rfl, by decide +kernel, rfl, by decide +kernel, by decide +kernel⟩
def b__law_plan : { g : M Out // ∀ (P : Program) (w : World) (K : PySem.W.Frag) (mg : Str → Option Value) (base : Heap) (T : List (Addr × Str)) (f : Addr) (n_range : mg "range" = none) (o__law_pick : CalO P w K mg base T "_law_pick" 2 2 O__law_pick) (o__law_sip : CalO P w K mg base T "_law_sip" 1 2 O__law_sip) (cdv : Value) (A : Around) (outer : List Env) (s : Shared) (H : Hp) (E : XK) (c : Fc) (hK : c.K = K) (hM : c.mg = mg) (hT : c.T = T) (fx : Fit (cxOf (L2.CX P w) P w K mg base ["tub", "most", "many", "found", "i", "j", "m"] "_law_plan" (defScope s__law_plan) f cdv A outer s H E) c) (hr : Room 2 (A.deeper (envOfC "_law_plan" (defScope s__law_plan) s.heap.objs.size f cdv))), DSs (cxOf (L2.CX P w) P w K mg base ["tub", "most", "many", "found", "i", "j", "m"] "_law_plan" (defScope s__law_plan) f cdv A outer s H E) c (defBody s__law_plan) g } :=
  ⟨_, fun P w K mg base T f n_range o__law_pick o__law_sip cdv A outer s H E c hK hM hT fx hr => (dss_cons (ds_parD (i := 2) (j := 3) rfl sc__law_plan.nd rfl rfl (by decide) rfl rfl (de_add fx de_int (de_callOC (i := 0) fx hT o__law_sip hr (by decide) rfl rfl (by first | exact .inl rfl | exact .inr (.inl rfl) | exact .inr (.inr rfl)) (da_cons (de_v 1) da_nil))) rfl) (dss_cons (ds_for (passes_of rfl) rfl (di_range1 rfl n_range (da_cons (de_v 2) da_nil)) (dg_name (i := 4) sc__law_plan.nd rfl (by first | exact .inl rfl | exact .inr rfl | exact .inr (.inl rfl))) (dss_one (ds_for (passes_of rfl) rfl (di_range2 rfl n_range (da_cons (de_add fx (de_v 4) de_int) (da_cons (de_v 2) da_nil))) (dg_name (i := 5) sc__law_plan.nd rfl (by first | exact .inl rfl | exact .inr rfl | exact .inr (.inl rfl))) (dss_cons (ds_asg (de_callOC (i := 0) fx hT o__law_pick hr (by decide) rfl rfl (by first | exact .inl rfl | exact .inr (.inl rfl) | exact .inr (.inr rfl)) (da_cons (de_lst (da_cons de_int (da_cons de_int (da_cons de_int (da_cons de_int (da_cons de_int (da_cons de_int (da_cons de_int (da_cons de_int da_nil))))))))) da_nil)) (dg_name (i := 6) sc__law_plan.nd rfl (by first | exact .inl rfl | exact .inr rfl | exact .inr (.inl rfl)))) (dss_one (ds_if (dt_neA fx hr (de_v 6) de_int) (dss_one (ds_putK (i := 3) hr rfl (by first | exact .inl rfl | exact .inr (.inl rfl) | exact .inr (.inr rfl)) (de_v 6) (de_add fx (de_ixA fx hr de_str (de_v 4)) (de_ixA fx hr de_str (de_v 5))))) dss_nil)))))) (dss_one (ds_ret (de_lst (da_cons (de_v 2) (da_cons (de_v 3) da_nil)))))))⟩
def O__law_plan (t : D) (ds : List D) : Res (D × D) := resB (b__law_plan.1 (slots 7 (.bo t :: ds.map .im)))
abbrev s__law_angles : Stmt := top 45
theorem sc__law_angles : FnScope ["plan", "pair"] ["plan"] (defScope s__law_angles) := ⟨rfl, rfl, rfl, by decide +kernel, rfl, by decide +kernel, by decide +kernel⟩
def b__law_angles : { g : M Out // ∀ (P : Program) (w : World) (K : PySem.W.Frag) (mg : Str → Option Value) (base : Heap) (T : List (Addr × Str)) (f : Addr) (n_sorted : mg "sorted" = none) (n_tuple : mg "tuple" = none) (cdv : Value) (A : Around) (outer : List Env) (s : Shared) (H : Hp) (E : XK) (c : Fc) (hK : c.K = K) (hM : c.mg = mg) (hT : c.T = T) (fx : Fit (cxOf (L2.CX P w) P w K mg base ["plan", "pair"] "_law_angles" (defScope s__law_angles) f cdv A outer s H E) c) (hr : Room 0 (A.deeper (envOfC "_law_angles" (defScope s__law_angles) s.heap.objs.size f cdv))), DSs (cxOf (L2.CX P w) P w K mg base ["plan", "pair"] "_law_angles" (defScope s__law_angles) f cdv A outer s H E) c (defBody s__law_angles) g } :=
  ⟨_, fun P w K mg base T f n_sorted n_tuple cdv A outer s H E c hK hM hT fx hr => (dss_one (ds_ret (de_tuplec fx rfl n_tuple (da_cons (de_comp (own := [("pair", 1)]) fx rfl sc__law_angles.nd (di_anyK fx (de_sorted fx rfl rfl n_sorted (da_cons (de_ixA fx hr (de_v 0) de_int) da_nil))) (blk_by (by kernel_rfl)) (by decide) (by decide) (fun s1 H1 C1 cl1 fp1 c1 fb1 => (dg_name (i := 1) sc__law_angles.nd rfl (by first | exact .inl rfl | exact .inr rfl | exact .inr (.inl rfl)))) (fun s1 H1 C1 cl1 fp1 c1 fb1 => .nil) (fun s1 H1 C1 cl1 fp1 c1 fb1 => (de_tup (da_cons (de_ixA (fb1.fit rfl) hr (de_v 1) de_int) (da_cons (de_ixA (fb1.fit rfl) hr (de_v 1) de_int) (da_cons (de_ixA (fb1.fit rfl) hr (de_ixA (fb1.fit rfl) hr (de_v 0) de_int) (de_v 1)) da_nil)))))) da_nil))))⟩
def F__law_angles (ds : List D) : Res D := resD (b__law_angles.1 (slots 2 (ds.map .im)))
abbrev s__law_made : Stmt := top 46
theorem sc__law_made : FnScope ["plan"] ["plan"] (defScope s__law_made) := ⟨rfl, rfl, rfl, by decide +kernel, rfl, by decide +kernel, by decide +kernel⟩
def b__law_made : { g : M Out // ∀ (P : Program) (w : World) (K : PySem.W.Frag) (mg : Str → Option Value) (base : Heap) (T : List (Addr × Str)) (f : Addr) (c__law_angles : Cal P w K mg base T "_law_angles" 1 1 F__law_angles) (y_Mirrors : MkB P w K mg base T "Mirrors" 4 3 O_Mirrors___init__) (cdv : Value) (A : Around) (outer : List Env) (s : Shared) (H : Hp) (E : XK) (c : Fc) (hK : c.K = K) (hM : c.mg = mg) (hT : c.T = T) (fx : Fit (cxOf (L2.CX P w) P w K mg base ["plan"] "_law_made" (defScope s__law_made) f cdv A outer s H E) c) (hr : Room 5 (A.deeper (envOfC "_law_made" (defScope s__law_made) s.heap.objs.size f cdv))), DSs (cxOf (L2.CX P w) P w K mg base ["plan"] "_law_made" (defScope s__law_made) f cdv A outer s H E) c (defBody s__law_made) g } :=
  ⟨_, fun P w K mg base T f c__law_angles y_Mirrors cdv A outer s H E c hK hM hT fx hr => (dss_one (ds_ret (de_mkC fx hT y_Mirrors hr (by decide) rfl (da_cons (de_ixA fx hr (de_v 0) de_int) (da_cons (de_callC fx hT c__law_angles hr (by decide) rfl (da_cons (de_v 0) da_nil)) da_nil)))))⟩
def F__law_made (ds : List D) : Res D := resD (b__law_made.1 (slots 1 (ds.map .im)))
abbrev s__law_m : Stmt := top 47
theorem sc__law_m : FnScope ["plan", "x", "y"] ["plan", "x", "y"] (defScope s__law_m) := ⟨rfl, rfl, rfl, by decide +kernel, rfl, by decide +kernel, by decide +kernel⟩
def b__law_m : { g : M Out // ∀ (P : Program) (w : World) (K : PySem.W.Frag) (mg : Str → Option Value) (base : Heap) (T : List (Addr × Str)) (f : Addr) (n_max : mg "max" = none) (n_min : mg "min" = none) (cdv : Value) (A : Around) (outer : List Env) (s : Shared) (H : Hp) (E : XK) (c : Fc) (hK : c.K = K) (hM : c.mg = mg) (hT : c.T = T) (fx : Fit (cxOf (L2.CX P w) P w K mg base ["plan", "x", "y"] "_law_m" (defScope s__law_m) f cdv A outer s H E) c) (hr : Room 0 (A.deeper (envOfC "_law_m" (defScope s__law_m) s.heap.objs.size f cdv))), DSs (cxOf (L2.CX P w) P w K mg base ["plan", "x", "y"] "_law_m" (defScope s__law_m) f cdv A outer s H E) c (defBody s__law_m) g } :=
  ⟨_, fun P w K mg base T f n_max n_min cdv A outer s H E c hK hM hT fx hr => (dss_one (ds_ret (de_get2 hr (de_ixA fx hr (de_v 0) de_int) (de_add fx (de_minA rfl rfl n_min (da_cons (de_v 1) (da_cons (de_v 2) da_nil))) (de_maxA rfl rfl n_max (da_cons (de_v 1) (da_cons (de_v 2) da_nil)))) de_int)))⟩
def F__law_m (ds : List D) : Res D := resD (b__law_m.1 (slots 3 (ds.map .im)))
abbrev s__law_c : Stmt := top 49
theorem sc__law_c : FnScope ["plan", "x", "y", "m"] ["plan", "x", "y"] (defScope s__law_c) := ⟨rfl, rfl, rfl, by decide +kernel, rfl, by decide +kernel, by decide +kernel⟩
def b__law_c : { g : M Out // ∀ (P : Program) (w : World) (K : PySem.W.Frag) (mg : Str → Option Value) (base : Heap) (T : List (Addr × Str)) (f : Addr) (c__law_m : Cal P w K mg base T "_law_m" 1 3 F__law_m) (cdv : Value) (A : Around) (outer : List Env) (s : Shared) (H : Hp) (E : XK) (c : Fc) (hK : c.K = K) (hM : c.mg = mg) (hT : c.T = T) (fx : Fit (cxOf (L2.CX P w) P w K mg base ["plan", "x", "y", "m"] "_law_c" (defScope s__law_c) f cdv A outer s H E) c) (hr : Room 1 (A.deeper (envOfC "_law_c" (defScope s__law_c) s.heap.objs.size f cdv))), DSs (cxOf (L2.CX P w) P w K mg base ["plan", "x", "y", "m"] "_law_c" (defScope s__law_c) f cdv A outer s H E) c (defBody s__law_c) g } :=
  ⟨_, fun P w K mg base T f c__law_m cdv A outer s H E c hK hM hT fx hr => (dss_cons (ds_asg (de_callC fx hT c__law_m hr (by decide) rfl (da_cons (de_v 0) (da_cons (de_v 1) (da_cons (de_v 2) da_nil)))) (dg_name (i := 3) sc__law_c.nd rfl (by first | exact .inl rfl | exact .inr rfl | exact .inr (.inl rfl)))) (dss_cons (ds_if (dt_eqA fx hr (de_v 3) de_int) (dss_one (ds_ret de_int)) dss_nil) (dss_cons (ds_if (dt_eqA fx hr (de_v 3) de_int) (dss_one (ds_ret de_int)) dss_nil) (dss_cons (ds_if (dt_eqA fx hr (de_v 3) de_int) (dss_one (ds_ret de_int)) dss_nil) (dss_one (ds_ret (de_ifx (dt_lt (de_v 1) (de_v 2)) de_int (de_divW (de_v 3) de_int))))))))⟩
def F__law_c (ds : List D) : Res D := resD (b__law_c.1 (slots 4 (ds.map .im)))
abbrev s__law_sent : Stmt := top 50
theorem sc__law_sent : FnScope ["plan", "word", "row", "found", "x", "i", "total", "j"] ["plan", "word", "row"] (defScope s__law_sent) := ⟨rfl, rfl, rfl, by decide +kernel, rfl, by decide +kernel, by decide +kernel⟩
def b__law_sent : { g : M Out // ∀ (P : Program) (w : World) (K : PySem.W.Frag) (mg : Str → Option Value) (base : Heap) (T : List (Addr × Str)) (f : Addr) (c__law_c : Cal P w K mg base T "_law_c" 2 3 F__law_c) (n_list : mg "list" = none) (n_range : mg "range" = none) (n_tuple : mg "tuple" = none) (cdv : Value) (A : Around) (outer : List Env) (s : Shared) (H : Hp) (E : XK) (c : Fc) (hK : c.K = K) (hM : c.mg = mg) (hT : c.T = T) (fx : Fit (cxOf (L2.CX P w) P w K mg base ["plan", "word", "row", "found", "x", "i", "total", "j"] "_law_sent" (defScope s__law_sent) f cdv A outer s H E) c) (hr : Room 2 (A.deeper (envOfC "_law_sent" (defScope s__law_sent) s.heap.objs.size f cdv))), DSs (cxOf (L2.CX P w) P w K mg base ["plan", "word", "row", "found", "x", "i", "total", "j"] "_law_sent" (defScope s__law_sent) f cdv A outer s H E) c (defBody s__law_sent) g } :=
  ⟨_, fun P w K mg base T f c__law_c n_list n_range n_tuple cdv A outer s H E c hK hM hT fx hr => (dss_cons (ds_ownLc (i := 3) fx rfl n_list (da_cons (de_v 2) da_nil) sc__law_sent.nd rfl (.inl rfl)) (dss_cons (ds_for (passes_of rfl) rfl (di_anyK fx (de_rev fx (de_v 1))) (dg_name (i := 4) sc__law_sent.nd rfl (by first | exact .inl rfl | exact .inr rfl | exact .inr (.inl rfl))) (dss_cons (ds_asg (de_sindex de_str (da_cons (de_v 4) da_nil)) (dg_name (i := 5) sc__law_sent.nd rfl (by first | exact .inl rfl | exact .inr rfl | exact .inr (.inl rfl)))) (dss_cons (ds_asg de_int (dg_name (i := 6) sc__law_sent.nd rfl (by first | exact .inl rfl | exact .inr rfl | exact .inr (.inl rfl)))) (dss_cons (ds_for (passes_of rfl) rfl (di_range1 rfl n_range (da_cons (de_ixA fx hr (de_v 0) de_int) da_nil)) (dg_name (i := 7) sc__law_sent.nd rfl (by first | exact .inl rfl | exact .inr rfl | exact .inr (.inl rfl))) (dss_one (ds_if (dt_neA fx hr (de_v 7) (de_v 5)) (dss_one (ds_asg (de_add fx (de_v 6) (de_mul (de_callC fx hT c__law_c hr (by decide) rfl (da_cons (de_v 0) (da_cons (de_v 4) (da_cons (de_ixA fx hr de_str (de_v 7)) da_nil)))) (de_ixO (i := 3) fx rfl (by first | exact .inl rfl | exact .inr (.inl rfl) | exact .inr (.inr rfl)) (de_v 7)))) (dg_name (i := 6) sc__law_sent.nd rfl (by first | exact .inl rfl | exact .inr rfl | exact .inr (.inl rfl))))) dss_nil))) (dss_one (ds_putO (i := 3) rfl (by first | exact .inl rfl | exact .inr (.inl rfl) | exact .inr (.inr rfl)) (de_sub (de_v 6) (de_ixO (i := 3) fx rfl (by first | exact .inl rfl | exact .inr (.inl rfl) | exact .inr (.inr rfl)) (de_v 5))) (de_v 5) (pg_sub (pe_var rfl (by first | exact .inl rfl | exact .inr (.inl rfl) | exact .inr (.inr rfl))) (de_v 5) set_list))))))) (dss_one (ds_ret (de_tuplec fx rfl n_tuple (da_cons (de_v 3) da_nil))))))⟩
def F__law_sent (ds : List D) : Res D := resD (b__law_sent.1 (slots 8 (ds.map .im)))
abbrev s__law_word : Stmt := top 48
theorem sc__law_word : FnScope ["tub", "plan", "most", "k"] ["tub", "plan", "most"] (defScope s__law_word) := ⟨rfl, rfl, rfl, by decide +kernel, rfl, by decide +kernel, by decide +kernel⟩
def b__law_word : { g : M Out // ∀ (P : Program) (w : World) (K : PySem.W.Frag) (mg : Str → Option Value) (base : Heap) (T : List (Addr × Str)) (f : Addr) (n_range : mg "range" = none) (o__law_sip : CalO P w K mg base T "_law_sip" 1 2 O__law_sip) (cdv : Value) (A : Around) (outer : List Env) (s : Shared) (H : Hp) (E : XK) (c : Fc) (hK : c.K = K) (hM : c.mg = mg) (hT : c.T = T) (fx : Fit (cxOf (L2.CX P w) P w K mg base ["tub", "plan", "most", "k"] "_law_word" (defScope s__law_word) f cdv A outer s H E) c) (hr : Room 1 (A.deeper (envOfC "_law_word" (defScope s__law_word) s.heap.objs.size f cdv))), DSs (cxOf (L2.CX P w) P w K mg base ["tub", "plan", "most", "k"] "_law_word" (defScope s__law_word) f cdv A outer s H E) c (defBody s__law_word) g } :=
  ⟨_, fun P w K mg base T f n_range o__law_sip cdv A outer s H E c hK hM hT fx hr => (dss_one (ds_ret (de_join fx de_str (da_cons (de_comp (own := [("k", 3)]) fx rfl sc__law_word.nd (di_range1 rfl n_range (da_cons (de_callOC (i := 0) fx hT o__law_sip hr (by decide) rfl rfl (by first | exact .inl rfl | exact .inr (.inl rfl) | exact .inr (.inr rfl)) (da_cons (de_add fx (de_v 2) de_int) da_nil)) da_nil)) (blk_by (by kernel_rfl)) (by decide) (by decide) (fun s1 H1 C1 cl1 fp1 c1 fb1 => (dg_name (i := 3) sc__law_word.nd rfl (by first | exact .inl rfl | exact .inr rfl | exact .inr (.inl rfl)))) (fun s1 H1 C1 cl1 fp1 c1 fb1 => .nil) (fun s1 H1 C1 cl1 fp1 c1 fb1 => (de_ixA (fb1.fit rfl) hr de_str (de_callOC (i := 0) (fb1.fit rfl) (fb1.t.trans hT) o__law_sip hr (by decide) rfl rfl (by first | exact .inl rfl | exact .inr (.inl rfl) | exact .inr (.inr rfl)) (da_cons (de_ixA (fb1.fit rfl) hr (de_v 1) de_int) da_nil))))) da_nil))))⟩
def O__law_word (t : D) (ds : List D) : Res (D × D) := resB (b__law_word.1 (slots 4 (.bo t :: ds.map .im)))
abbrev s__law_single : Stmt := top 51
theorem sc__law_single : FnScope ["plan", "i", "j"] ["plan", "i"] (defScope s__law_single) := ⟨rfl, rfl, rfl, by decide +kernel, rfl, by decide +kernel, by decide +kernel⟩
def b__law_single : { g : M Out // ∀ (P : Program) (w : World) (K : PySem.W.Frag) (mg : Str → Option Value) (base : Heap) (T : List (Addr × Str)) (f : Addr) (n_range : mg "range" = none) (n_tuple : mg "tuple" = none) (cdv : Value) (A : Around) (outer : List Env) (s : Shared) (H : Hp) (E : XK) (c : Fc) (hK : c.K = K) (hM : c.mg = mg) (hT : c.T = T) (fx : Fit (cxOf (L2.CX P w) P w K mg base ["plan", "i", "j"] "_law_single" (defScope s__law_single) f cdv A outer s H E) c) (hr : Room 0 (A.deeper (envOfC "_law_single" (defScope s__law_single) s.heap.objs.size f cdv))), DSs (cxOf (L2.CX P w) P w K mg base ["plan", "i", "j"] "_law_single" (defScope s__law_single) f cdv A outer s H E) c (defBody s__law_single) g } :=
  ⟨_, fun P w K mg base T f n_range n_tuple cdv A outer s H E c hK hM hT fx hr => (dss_one (ds_ret (de_tuplec fx rfl n_tuple (da_cons (de_comp (own := [("j", 2)]) fx rfl sc__law_single.nd (di_range1 rfl n_range (da_cons (de_ixA fx hr (de_v 0) de_int) da_nil)) (blk_by (by kernel_rfl)) (by decide) (by decide) (fun s1 H1 C1 cl1 fp1 c1 fb1 => (dg_name (i := 2) sc__law_single.nd rfl (by first | exact .inl rfl | exact .inr rfl | exact .inr (.inl rfl)))) (fun s1 H1 C1 cl1 fp1 c1 fb1 => .nil) (fun s1 H1 C1 cl1 fp1 c1 fb1 => (de_ifx (dt_eqA (fb1.fit rfl) hr (de_v 2) (de_v 1)) de_int de_int))) da_nil))))⟩
def F__law_single (ds : List D) : Res D := resD (b__law_single.1 (slots 3 (ds.map .im)))
abbrev s__law_rows : Stmt := top 52
theorem sc__law_rows : FnScope ["plan", "word", "i"] ["plan", "word"] (defScope s__law_rows) := ⟨rfl, rfl, rfl, by decide +kernel, rfl, by decide +kernel, by decide +kernel⟩
def b__law_rows : { g : M Out // ∀ (P : Program) (w : World) (K : PySem.W.Frag) (mg : Str → Option Value) (base : Heap) (T : List (Addr × Str)) (f : Addr) (c__law_sent : Cal P w K mg base T "_law_sent" 3 3 F__law_sent) (c__law_single : Cal P w K mg base T "_law_single" 1 2 F__law_single) (n_range : mg "range" = none) (n_tuple : mg "tuple" = none) (cdv : Value) (A : Around) (outer : List Env) (s : Shared) (H : Hp) (E : XK) (c : Fc) (hK : c.K = K) (hM : c.mg = mg) (hT : c.T = T) (fx : Fit (cxOf (L2.CX P w) P w K mg base ["plan", "word", "i"] "_law_rows" (defScope s__law_rows) f cdv A outer s H E) c) (hr : Room 3 (A.deeper (envOfC "_law_rows" (defScope s__law_rows) s.heap.objs.size f cdv))), DSs (cxOf (L2.CX P w) P w K mg base ["plan", "word", "i"] "_law_rows" (defScope s__law_rows) f cdv A outer s H E) c (defBody s__law_rows) g } :=
  ⟨_, fun P w K mg base T f c__law_sent c__law_single n_range n_tuple cdv A outer s H E c hK hM hT fx hr => (dss_one (ds_ret (de_tuplec fx rfl n_tuple (da_cons (de_comp (own := [("i", 2)]) fx rfl sc__law_rows.nd (di_range1 rfl n_range (da_cons (de_ixA fx hr (de_v 0) de_int) da_nil)) (blk_by (by kernel_rfl)) (by decide) (by decide) (fun s1 H1 C1 cl1 fp1 c1 fb1 => (dg_name (i := 2) sc__law_rows.nd rfl (by first | exact .inl rfl | exact .inr rfl | exact .inr (.inl rfl)))) (fun s1 H1 C1 cl1 fp1 c1 fb1 => .nil) (fun s1 H1 C1 cl1 fp1 c1 fb1 => (de_callC (fb1.fit rfl) (fb1.t.trans hT) c__law_sent hr (by decide) rfl (da_cons (de_v 0) (da_cons (de_v 1) (da_cons (de_callC (fb1.fit rfl) (fb1.t.trans hT) c__law_single hr (by decide) rfl (da_cons (de_v 0) (da_cons (de_v 2) da_nil))) da_nil)))))) da_nil))))⟩
def F__law_rows (ds : List D) : Res D := resD (b__law_rows.1 (slots 3 (ds.map .im)))
abbrev s__law_right : Stmt := top 53
theorem sc__law_right : FnScope ["tub", "turn", "plan", "mine", "word", "short", "wide", "row", "more", "due", "sums", "apart", "k", "each"] ["tub"] (defScope s__law_right) := ⟨rfl, rfl, rfl, by decide +kernel, rfl, by decide +kernel, by decide +kernel⟩
def b__law_right : { g : M Out // ∀ (P : Program) (w : World) (K : PySem.W.Frag) (mg : Str → Option Value) (base : Heap) (T : List (Addr × Str)) (f : Addr) (c__law_made : Cal P w K mg base T "_law_made" 6 1 F__law_made) (c__law_rows : Cal P w K mg base T "_law_rows" 4 2 F__law_rows) (c__law_sent : Cal P w K mg base T "_law_sent" 3 3 F__law_sent) (c_rows_of : Cal P w K mg base T "rows_of" 6 2 F_rows_of) (c_send : Cal P w K mg base T "send" 6 3 F_send) (n_max : mg "max" = none) (n_min : mg "min" = none) (n_range : mg "range" = none) (n_repr : mg "repr" = none) (n_tuple : mg "tuple" = none) (o__law_pick : CalO P w K mg base T "_law_pick" 2 2 O__law_pick) (o__law_plan : CalO P w K mg base T "_law_plan" 3 2 O__law_plan) (o__law_sip : CalO P w K mg base T "_law_sip" 1 2 O__law_sip) (o__law_word : CalO P w K mg base T "_law_word" 2 3 O__law_word) (u_rows_of_word_mirrors : CalK P w K mg base T "rows_of" ["word", "mirrors"] [1, 0] 6 2 F_rows_of) (u_send_row_word_mirrors : CalK P w K mg base T "send" ["row", "word", "mirrors"] [2, 1, 0] 6 3 F_send) (cdv : Value) (A : Around) (outer : List Env) (s : Shared) (H : Hp) (E : XK) (c : Fc) (hK : c.K = K) (hM : c.mg = mg) (hT : c.T = T) (fx : Fit (cxOf (L2.CX P w) P w K mg base ["tub", "turn", "plan", "mine", "word", "short", "wide", "row", "more", "due", "sums", "apart", "k", "each"] "_law_right" (defScope s__law_right) f cdv A outer s H E) c) (hgd : A.guards = some []) (hr : Room 6 (A.deeper (envOfC "_law_right" (defScope s__law_right) s.heap.objs.size f cdv))), DSs (cxOf (L2.CX P w) P w K mg base ["tub", "turn", "plan", "mine", "word", "short", "wide", "row", "more", "due", "sums", "apart", "k", "each"] "_law_right" (defScope s__law_right) f cdv A outer s H E) c (defBody s__law_right) g } :=
  ⟨_, fun P w K mg base T f c__law_made c__law_rows c__law_sent c_rows_of c_send n_max n_min n_range n_repr n_tuple o__law_pick o__law_plan o__law_sip o__law_word u_rows_of_word_mirrors u_send_row_word_mirrors cdv A outer s H E c hK hM hT fx hgd hr => (dss_cons (ds_for (passes_of rfl) rfl (di_range1 rfl n_range (da_cons de_int da_nil)) (dg_name (i := 1) sc__law_right.nd rfl (by first | exact .inl rfl | exact .inr rfl | exact .inr (.inl rfl))) (dss_cons (ds_asg (de_callOC (i := 0) fx hT o__law_plan hr (by decide) rfl rfl (by first | exact .inl rfl | exact .inr (.inl rfl) | exact .inr (.inr rfl)) (da_cons de_int da_nil)) (dg_name (i := 2) sc__law_right.nd rfl (by first | exact .inl rfl | exact .inr rfl | exact .inr (.inl rfl)))) (dss_cons (ds_asg (de_callC fx hT c__law_made hr (by decide) rfl (da_cons (de_v 2) da_nil)) (dg_name (i := 3) sc__law_right.nd rfl (by first | exact .inl rfl | exact .inr rfl | exact .inr (.inl rfl)))) (dss_cons (ds_par (i := 4) (j := 5) rfl sc__law_right.nd rfl rfl (by decide) rfl rfl (da_cons (de_callOC (i := 0) fx hT o__law_word hr (by decide) rfl rfl (by first | exact .inl rfl | exact .inr (.inl rfl) | exact .inr (.inr rfl)) (da_cons (de_v 2) (da_cons (de_callOC (i := 0) fx hT o__law_pick hr (by decide) rfl rfl (by first | exact .inl rfl | exact .inr (.inl rfl) | exact .inr (.inr rfl)) (da_cons (de_lst (da_cons de_int (da_cons de_int (da_cons de_int da_nil)))) da_nil)) da_nil))) (da_cons (de_callOC (i := 0) fx hT o__law_word hr (by decide) rfl rfl (by first | exact .inl rfl | exact .inr (.inl rfl) | exact .inr (.inr rfl)) (da_cons (de_v 2) (da_cons de_int da_nil))) da_nil)) rfl) (dss_cons (ds_asg (de_callOC (i := 0) fx hT o__law_pick hr (by decide) rfl rfl (by first | exact .inl rfl | exact .inr (.inl rfl) | exact .inr (.inr rfl)) (da_cons (de_lst (da_cons de_int (da_cons (de_pow de_int de_int) (da_cons (de_pow de_int de_int) da_nil)))) da_nil)) (dg_name (i := 6) sc__law_right.nd rfl (by first | exact .inl rfl | exact .inr rfl | exact .inr (.inl rfl)))) (dss_cons (ds_asg (de_tuplec fx rfl n_tuple (da_cons (de_comp (own := [("k", 12)]) fx rfl sc__law_right.nd (di_range1 rfl n_range (da_cons (de_ixA fx hr (de_v 2) de_int) da_nil)) (blk_by (by kernel_rfl)) (by decide) (by decide) (fun s1 H1 C1 cl1 fp1 c1 fb1 => (dg_name (i := 12) sc__law_right.nd rfl (by first | exact .inl rfl | exact .inr rfl | exact .inr (.inl rfl)))) (fun s1 H1 C1 cl1 fp1 c1 fb1 => .nil) (fun s1 H1 C1 cl1 fp1 c1 fb1 => (de_sub (de_callOC (i := 0) (fb1.fit rfl) (fb1.t.trans hT) o__law_sip hr (by decide) rfl rfl (by first | exact .inl rfl | exact .inr (.inl rfl) | exact .inr (.inr rfl)) (da_cons (de_add (fb1.fit rfl) (de_mul de_int (de_v 6)) de_int) da_nil)) (de_v 6)))) da_nil)) (dg_name (i := 7) sc__law_right.nd rfl (by first | exact .inl rfl | exact .inr rfl | exact .inr (.inl rfl)))) (dss_cons (ds_asg (de_tuplec fx rfl n_tuple (da_cons (de_comp (own := [("k", 12)]) fx rfl sc__law_right.nd (di_range1 rfl n_range (da_cons (de_ixA fx hr (de_v 2) de_int) da_nil)) (blk_by (by kernel_rfl)) (by decide) (by decide) (fun s2 H2 C2 cl2 fp2 c2 fb2 => (dg_name (i := 12) sc__law_right.nd rfl (by first | exact .inl rfl | exact .inr rfl | exact .inr (.inl rfl)))) (fun s2 H2 C2 cl2 fp2 c2 fb2 => .nil) (fun s2 H2 C2 cl2 fp2 c2 fb2 => (de_sub (de_callOC (i := 0) (fb2.fit rfl) (fb2.t.trans hT) o__law_sip hr (by decide) rfl rfl (by first | exact .inl rfl | exact .inr (.inl rfl) | exact .inr (.inr rfl)) (da_cons de_int da_nil)) de_int))) da_nil)) (dg_name (i := 8) sc__law_right.nd rfl (by first | exact .inl rfl | exact .inr rfl | exact .inr (.inl rfl)))) (dss_cons (ds_asg (de_callC fx hT c__law_sent hr (by decide) rfl (da_cons (de_v 2) (da_cons (de_v 4) (da_cons (de_v 7) da_nil)))) (dg_name (i := 9) sc__law_right.nd rfl (by first | exact .inl rfl | exact .inr rfl | exact .inr (.inl rfl)))) (dss_cons (ds_if (dt_neA fx hr (de_repr fx hgd hr rfl n_repr (da_cons (de_lst (da_cons (de_callC fx hT c_send hr (by decide) rfl (da_cons (de_v 3) (da_cons (de_v 4) (da_cons (de_v 7) da_nil)))) (da_cons (de_callKC fx hT u_send_row_word_mirrors hr (by decide) rfl (dk_cons (de_v 7) (dk_cons (de_v 4) (dk_cons (de_v 3) dk_nil)))) da_nil))) da_nil)) (de_repr fx hgd hr rfl n_repr (da_cons (de_lst (da_cons (de_v 9) (da_cons (de_v 9) da_nil))) da_nil))) (dss_one (ds_ret de_bl)) dss_nil) (dss_cons (ds_if (dt_neA fx hr (de_repr fx hgd hr rfl n_repr (da_cons (de_lst (da_cons (de_callC fx hT c_rows_of hr (by decide) rfl (da_cons (de_v 3) (da_cons (de_v 4) da_nil))) (da_cons (de_callKC fx hT u_rows_of_word_mirrors hr (by decide) rfl (dk_cons (de_v 4) (dk_cons (de_v 3) dk_nil))) da_nil))) da_nil)) (de_repr fx hgd hr rfl n_repr (da_cons (de_rep (de_lst (da_cons (de_callC fx hT c__law_rows hr (by decide) rfl (da_cons (de_v 2) (da_cons (de_v 4) da_nil))) da_nil)) de_int) da_nil))) (dss_one (ds_ret de_bl)) dss_nil) (dss_cons (ds_if (dt_neA fx hr (de_callC fx hT c_send hr (by decide) rfl (da_cons (de_v 3) (da_cons (de_rev fx (de_v 5)) (da_cons (de_callC fx hT c_send hr (by decide) rfl (da_cons (de_v 3) (da_cons (de_v 5) (da_cons (de_v 7) da_nil)))) da_nil)))) (de_v 7)) (dss_one (ds_ret de_bl)) dss_nil) (dss_cons (ds_asg (de_tuplec fx rfl n_tuple (da_cons (de_comp (own := [("k", 12)]) fx rfl sc__law_right.nd (di_range1 rfl n_range (da_cons (de_ixA fx hr (de_v 2) de_int) da_nil)) (blk_by (by kernel_rfl)) (by decide) (by decide) (fun s3 H3 C3 cl3 fp3 c3 fb3 => (dg_name (i := 12) sc__law_right.nd rfl (by first | exact .inl rfl | exact .inr rfl | exact .inr (.inl rfl)))) (fun s3 H3 C3 cl3 fp3 c3 fb3 => .nil) (fun s3 H3 C3 cl3 fp3 c3 fb3 => (de_add (fb3.fit rfl) (de_ixA (fb3.fit rfl) hr (de_v 7) (de_v 12)) (de_ixA (fb3.fit rfl) hr (de_v 8) (de_v 12))))) da_nil)) (dg_name (i := 10) sc__law_right.nd rfl (by first | exact .inl rfl | exact .inr rfl | exact .inr (.inl rfl)))) (dss_cons (ds_asg (de_lst (da_cons (de_callC fx hT c_send hr (by decide) rfl (da_cons (de_v 3) (da_cons (de_v 5) (da_cons (de_v 7) da_nil)))) (da_cons (de_callC fx hT c_send hr (by decide) rfl (da_cons (de_v 3) (da_cons (de_v 5) (da_cons (de_v 8) da_nil)))) da_nil))) (dg_name (i := 11) sc__law_right.nd rfl (by first | exact .inl rfl | exact .inr rfl | exact .inr (.inl rfl)))) (dss_cons (ds_if (dt_neA fx hr (de_callC fx hT c_send hr (by decide) rfl (da_cons (de_v 3) (da_cons (de_v 5) (da_cons (de_v 10) da_nil)))) (de_tuplec fx rfl n_tuple (da_cons (de_comp (own := [("k", 12)]) fx rfl sc__law_right.nd (di_range1 rfl n_range (da_cons (de_ixA fx hr (de_v 2) de_int) da_nil)) (blk_by (by kernel_rfl)) (by decide) (by decide) (fun s4 H4 C4 cl4 fp4 c4 fb4 => (dg_name (i := 12) sc__law_right.nd rfl (by first | exact .inl rfl | exact .inr rfl | exact .inr (.inl rfl)))) (fun s4 H4 C4 cl4 fp4 c4 fb4 => .nil) (fun s4 H4 C4 cl4 fp4 c4 fb4 => (de_add (fb4.fit rfl) (de_ixA (fb4.fit rfl) hr (de_ixA (fb4.fit rfl) hr (de_v 11) de_int) (de_v 12)) (de_ixA (fb4.fit rfl) hr (de_ixA (fb4.fit rfl) hr (de_v 11) de_int) (de_v 12))))) da_nil))) (dss_one (ds_ret de_bl)) dss_nil) (dss_one (ds_if (dt_neA fx hr (de_comp (own := [("each", 13)]) fx rfl sc__law_right.nd (di_anyK fx (de_callC fx hT c_rows_of hr (by decide) rfl (da_cons (de_v 3) (da_cons (de_v 5) da_nil)))) (blk_by (by kernel_rfl)) (by decide) (by decide) (fun s5 H5 C5 cl5 fp5 c5 fb5 => (dg_name (i := 13) sc__law_right.nd rfl (by first | exact .inl rfl | exact .inr rfl | exact .inr (.inl rfl)))) (fun s5 H5 C5 cl5 fp5 c5 fb5 => (.one (dt_w (dw_and (dt_lt (de_min1 (fb5.fit rfl) rfl rfl n_min (da_cons (de_v 13) da_nil)) de_int) (dw_and1 (dt_gt (de_max1 (fb5.fit rfl) rfl rfl n_max (da_cons (de_v 13) da_nil)) de_int)))))) (fun s5 H5 C5 cl5 fp5 c5 fb5 => (de_v 13))) (de_lst da_nil)) (dss_one (ds_ret de_bl)) dss_nil)))))))))))))))) (dss_one (ds_ret de_bl)))⟩
def O__law_right (t : D) (ds : List D) : Res (D × D) := resB (b__law_right.1 (slots 14 (.bo t :: ds.map .im)))
abbrev s__law_tub : Stmt := top 41
theorem sc__law_tub : FnScope ["script", "turn", "entry", "stirred", "each"] ["script", "turn"] (defScope s__law_tub) := ⟨rfl, rfl, rfl, by decide +kernel, rfl, by decide +kernel, by decide +kernel⟩
def b__law_tub : { g : M (List D) // ∀ (P : Program) (w : World) (K : PySem.W.Frag) (mg : Str → Option Value) (base : Heap) (T : List (Addr × Str)) (f : Addr) (n_abs : mg "abs" = none) (n_int : mg "int" = none) (n_len : mg "len" = none) (cdv : Value) (A : Around) (outer : List Env) (s : Shared) (H : Hp) (E : XK) (c : Fc) (hK : c.K = K) (hM : c.mg = mg) (hT : c.T = T) (fx : Fit (cxOf (L2.CX P w) P w K mg base ["script", "turn", "entry", "stirred", "each"] "_law_tub" (defScope s__law_tub) f cdv A outer s H E) c) (hr : Room 0 (A.deeper (envOfC "_law_tub" (defScope s__law_tub) s.heap.objs.size f cdv))), DNs (cxOf (L2.CX P w) P w K mg base ["script", "turn", "entry", "stirred", "each"] "_law_tub" (defScope s__law_tub) f cdv A outer s H E) c (defBody s__law_tub) g } :=
  ⟨_, fun P w K mg base T f n_abs n_int n_len cdv A outer s H E c hK hM hT fx hr => (dns_cons (ds_asg (de_ifx (dt_lt (de_v 1) (de_len fx rfl n_len (da_cons (de_v 0) da_nil))) (de_intc rfl n_int (da_cons (de_ixA fx hr (de_v 0) (de_v 1)) da_nil)) (de_add fx (de_mul de_int (de_v 1)) de_int)) (dg_name (i := 2) sc__law_tub.nd rfl (by first | exact .inl rfl | exact .inr rfl | exact .inr (.inl rfl)))) (dns_cons (ds_asg (de_add fx de_int (de_mul de_int (de_v 1))) (dg_name (i := 3) sc__law_tub.nd rfl (by first | exact .inl rfl | exact .inr rfl | exact .inr (.inl rfl)))) (dns_cons (ds_for (passes_of rfl) rfl (di_anyK fx (de_sl fx (de_v 0) do_none (do_some de_int))) (dg_name (i := 4) sc__law_tub.nd rfl (by first | exact .inl rfl | exact .inr rfl | exact .inr (.inl rfl))) (dss_one (ds_asg (de_mod (de_intc rfl n_int (da_cons (de_add fx (de_add fx (de_mul (de_v 3) de_int) (de_mod (de_intc rfl n_int (da_cons (de_v 4) da_nil)) de_int)) (de_v 1)) da_nil)) de_int) (dg_name (i := 3) sc__law_tub.nd rfl (by first | exact .inl rfl | exact .inr rfl | exact .inr (.inl rfl)))))) (dns_cons (ds_asg (de_mod (de_intc rfl n_int (da_cons (de_add fx (de_mul (de_v 3) de_int) (de_mod (de_intc rfl n_int (da_cons (de_v 2) da_nil)) de_int)) da_nil)) de_int) (dg_name (i := 3) sc__law_tub.nd rfl (by first | exact .inl rfl | exact .inr rfl | exact .inr (.inl rfl)))) (dns_ret (da_cons (de_ifx (dt_ge (de_abs rfl n_abs (da_cons (de_v 2) da_nil)) (de_pow de_int de_int)) (de_abs rfl n_abs (da_cons (de_v 2) da_nil)) de_int) (da_cons (de_v 3) (da_cons de_int da_nil))))))))⟩
def V__law_tub (ds : List D) : Res (List D) := resN (b__law_tub.1 (slots 5 (ds.map .im)))
abbrev s_law : Stmt := top 54
theorem sc_law : FnScope ["script", "three", "two", "turn"] ["script"] (defScope s_law) := ⟨rfl, rfl, rfl, by decide +kernel, rfl, by decide +kernel, by decide +kernel⟩
def b_law : { g : M Out // ∀ (P : Program) (w : World) (K : PySem.W.Frag) (mg : Str → Option Value) (base : Heap) (T : List (Addr × Str)) (f : Addr) (N__law_tub : CalN P w K mg base T "_law_tub" 1 2 V__law_tub) (P__law_right : CalOG P w K mg base T "_law_right" 7 1 O__law_right) (a_Mirrors_read : CmB P w K mg base T "Mirrors" "read" 6 2 F_Mirrors_read) (c_rows_of : Cal P w K mg base T "rows_of" 6 2 F_rows_of) (c_send : Cal P w K mg base T "send" 6 3 F_send) (n_all : mg "all" = none) (n_len : mg "len" = none) (n_max : mg "max" = none) (n_min : mg "min" = none) (n_range : mg "range" = none) (cdv : Value) (A : Around) (outer : List Env) (s : Shared) (H : Hp) (E : XK) (c : Fc) (hK : c.K = K) (hM : c.mg = mg) (hT : c.T = T) (fx : Fit (cxOf (L2.CX P w) P w K mg base ["script", "three", "two", "turn"] "law" (defScope s_law) f cdv A outer s H E) c) (hgd : A.guards = some []) (hr : Room 7 (A.deeper (envOfC "law" (defScope s_law) s.heap.objs.size f cdv))), DSs (cxOf (L2.CX P w) P w K mg base ["script", "three", "two", "turn"] "law" (defScope s_law) f cdv A outer s H E) c (defBody s_law) g } :=
  ⟨_, fun P w K mg base T f N__law_tub P__law_right a_Mirrors_read c_rows_of c_send n_all n_len n_max n_min n_range cdv A outer s H E c hK hM hT fx hgd hr => (dss_cons (ds_par (i := 1) (j := 2) rfl sc_law.nd rfl rfl (by decide) rfl rfl (da_cons (de_cmethC _ fx hT a_Mirrors_read hr (by decide) rfl (da_cons de_str da_nil)) (da_cons (de_cmethC _ fx hT a_Mirrors_read hr (by decide) rfl (da_cons de_str da_nil)) da_nil)) rfl) (dss_cons (ds_if (dt_neA fx hr (de_lst (da_cons (de_callC fx hT c_send hr (by decide) rfl (da_cons (de_v 1) (da_cons de_str (da_cons (de_tup (da_cons de_int (da_cons de_int (da_cons de_int da_nil)))) da_nil)))) (da_cons (de_callC fx hT c_rows_of hr (by decide) rfl (da_cons (de_v 2) (da_cons de_str da_nil))) (da_cons (de_callC fx hT c_send hr (by decide) rfl (da_cons (de_v 1) (da_cons de_str (da_cons (de_tup (da_cons de_int (da_cons (de_neg de_int) (da_cons de_int da_nil)))) da_nil)))) (da_cons (de_callC fx hT c_rows_of hr (by decide) rfl (da_cons (de_cmethC _ fx hT a_Mirrors_read hr (by decide) rfl (da_cons de_str da_nil)) (da_cons de_str da_nil))) (da_cons (de_callC fx hT c_rows_of hr (by decide) rfl (da_cons (de_cmethC _ fx hT a_Mirrors_read hr (by decide) rfl (da_cons de_str da_nil)) (da_cons de_str da_nil))) da_nil)))))) (de_lst (da_cons (de_tup (da_cons de_int (da_cons de_int (da_cons de_int da_nil)))) (da_cons (de_tup (da_cons (de_tup (da_cons de_int (da_cons de_int da_nil))) (da_cons (de_tup (da_cons (de_neg de_int) (da_cons (de_neg de_int) da_nil))) da_nil))) (da_cons (de_tup (da_cons de_int (da_cons (de_neg de_int) (da_cons de_int da_nil)))) (da_cons (de_tup (da_cons (de_tup (da_cons (de_neg de_int) (da_cons de_int da_nil))) (da_cons (de_tup (da_cons de_int (da_cons de_int da_nil))) da_nil))) (da_cons (de_tup (da_cons (de_tup (da_cons de_int (da_cons de_int da_nil))) (da_cons (de_tup (da_cons de_int (da_cons (de_neg de_int) da_nil))) da_nil))) da_nil))))))) (dss_one (ds_ret de_bl)) dss_nil) (dss_one (ds_ret (de_all fx rfl rfl n_all (da_cons (de_comp (own := [("turn", 3)]) fx rfl sc_law.nd (di_range1 rfl n_range (da_cons (de_maxA rfl rfl n_max (da_cons de_int (da_cons (de_minA rfl rfl n_min (da_cons (de_len fx rfl n_len (da_cons (de_v 0) da_nil)) (da_cons de_int da_nil))) da_nil))) da_nil)) (blk_by (by kernel_rfl)) (by decide) (by decide) (fun s1 H1 C1 cl1 fp1 c1 fb1 => (dg_name (i := 3) sc_law.nd rfl (by first | exact .inl rfl | exact .inr rfl | exact .inr (.inl rfl)))) (fun s1 H1 C1 cl1 fp1 c1 fb1 => .nil) (fun s1 H1 C1 cl1 fp1 c1 fb1 => (de_callNO (fb1.fit rfl) (fb1.t.trans hT) hgd N__law_tub P__law_right hr (by decide) (by decide) rfl rfl (da_cons (de_v 0) (da_cons (de_v 3) da_nil))))) da_nil))))))⟩
def F_law (ds : List D) : Res D := resD (b_law.1 (slots 4 (ds.map .im)))
end KX

set_option Elab.async false
set_option linter.all false
set_option maxRecDepth 100000
set_option maxHeartbeats 4000000
/-! DN3: dict comprehensions evaluated; more of loops. -/
namespace DL
open PySem PySem.Spec PyProof.Rows L2
theorem putD_new {ks : List (Key × D)} {k : Key} {v : D} (h : k ∉ ks.map (·.1)) : putD ks k v = ks ++ [(k, v)] := by
  unfold putD
  rw [if_neg]
  simpa using h
theorem dcL_map {vs : List Nat} {g : Tg} {tt : M Bool} {fk fv : M D} {ρ : Sls} (kf : D → Key) (vf : D → D) : ∀ (ds : List D) (acc : List (Key × D)), acc.length + ds.length ≤ 16777216 → (acc.map (·.1) ++ ds.map kf).Nodup →
    (∀ d ∈ ds, ∃ ρ1 ρ2 k ρ3 ρ4, g d (inBlk ρ vs) = some ρ1 ∧ tt ρ1 = .ok true ρ2 ∧ fk ρ2 = .ok k ρ3 ∧ k.key = some (kf d) ∧ fv ρ3 = .ok (vf d) ρ4 ∧ outBlk ρ ρ4 = ρ) → M.dcL vs g tt fk fv ds acc ρ = .ok (acc ++ ds.map fun d => (kf d, vf d)) ρ
  | [], acc, _, _, _ => by rw [List.map_nil, List.append_nil]; rfl
  | d :: ds, acc, hl, hn, h => by
    obtain ⟨ρ1, ρ2, k, ρ3, ρ4, e1, e2, e3, e4, e5, e6⟩ := h d (List.mem_cons_self ..)
    rw [List.length_cons] at hl
    rw [List.map_cons] at hn
    have hk : kf d ∉ acc.map (·.1) := fun z => by
      have := (List.nodup_append.mp hn).2.2 _ z _ (List.mem_cons_self ..)
      exact this rfl
    show (match g d (inBlk ρ vs) with | none => Ret.no | some ρ1 => _) = _
    rw [e1]; dsimp only; rw [e2]; dsimp only; rw [e3]; dsimp only; rw [e5]; dsimp only; rw [e4]; dsimp only
    rw [if_pos (by omega), e6, putD_new hk, dcL_map kf vf ds (acc ++ [(kf d, vf d)]) (by rw [List.length_append, List.length_singleton]; omega) (by
      rw [List.map_append, List.append_assoc]; exact hn) fun d' hd => h d' (List.mem_cons_of_mem _ hd), List.append_assoc, List.map_cons]; rfl
theorem dc_map {vs : List Nat} {g : Tg} {tt : M Bool} {fk fv : M D} {ρ : Sls} (kf : D → Key) (vf : D → D) (ds : List D) (hl : ds.length ≤ 16777216) (hn : (ds.map kf).Nodup)
    (h : ∀ d ∈ ds, ∃ ρ1 ρ2 k ρ3 ρ4, g d (inBlk ρ vs) = some ρ1 ∧ tt ρ1 = .ok true ρ2 ∧ fk ρ2 = .ok k ρ3 ∧ k.key = some (kf d) ∧ fv ρ3 = .ok (vf d) ρ4 ∧ outBlk ρ ρ4 = ρ) : M.dc vs g tt fk fv ds ρ = .ok (.dct (ds.map fun d => (kf d, vf d))) ρ := by
  unfold M.dc M.bind'
  rw [dcL_map kf vf ds [] (by simpa using hl) (by simpa using hn) h]
  rfl
/-- the same over what is told by an index -/
theorem compL_mapI {ι : Type} {vs : List Nat} {g : Tg} {tt : M Bool} {fe : M D} {ρ : Sls} (δ f : ι → D) : ∀ (l : List ι) (acc : List D), acc.length + l.length ≤ 16777216 →
    (∀ i ∈ l, ∃ ρ1 ρ2 ρ3, g (δ i) (inBlk ρ vs) = some ρ1 ∧ tt ρ1 = .ok true ρ2 ∧ fe ρ2 = .ok (f i) ρ3 ∧ outBlk ρ ρ3 = ρ) → M.compL vs g tt fe (l.map δ) acc ρ = .ok (acc ++ l.map f) ρ
  | [], acc, _, _ => by rw [List.map_nil, List.map_nil, List.append_nil]; rfl
  | d :: ds, acc, hl, h => by
    obtain ⟨ρ1, ρ2, ρ3, e1, e2, e3, e4⟩ := h d (List.mem_cons_self ..)
    rw [List.length_cons] at hl
    have ih := compL_mapI (vs := vs) (g := g) (tt := tt) (fe := fe) (ρ := ρ) δ f ds (acc ++ [f d]) (by rw [List.length_append, List.length_singleton]; omega) fun d' hd => h d' (List.mem_cons_of_mem _ hd)
    show (match g (δ d) (inBlk ρ vs) with | none => Ret.no | some ρ1 => _) = _
    rw [e1]; dsimp only; rw [e2]; dsimp only; rw [e3]; dsimp only
    rw [if_pos (by omega), e4, ih, List.append_assoc, List.map_cons]; rfl
theorem comp_mapI {ι : Type} {vs : List Nat} {g : Tg} {tt : M Bool} {fe : M D} {ρ : Sls} (δ f : ι → D) (l : List ι) (hl : l.length ≤ 16777216)
    (h : ∀ i ∈ l, ∃ ρ1 ρ2 ρ3, g (δ i) (inBlk ρ vs) = some ρ1 ∧ tt ρ1 = .ok true ρ2 ∧ fe ρ2 = .ok (f i) ρ3 ∧ outBlk ρ ρ3 = ρ) : M.comp vs g tt fe (l.map δ) ρ = .ok (.lst (l.map f)) ρ := by
  unfold M.comp M.bind
  rw [compL_mapI δ f l [] (by simpa using hl) h]
  rfl
theorem dcL_mapI {ι : Type} {vs : List Nat} {g : Tg} {tt : M Bool} {fk fv : M D} {ρ : Sls} (δ : ι → D) (kf : ι → Key) (vf : ι → D) : ∀ (ds : List ι) (acc : List (Key × D)), acc.length + ds.length ≤ 16777216 → (acc.map (·.1) ++ ds.map kf).Nodup →
    (∀ d ∈ ds, ∃ ρ1 ρ2 k ρ3 ρ4, g (δ d) (inBlk ρ vs) = some ρ1 ∧ tt ρ1 = .ok true ρ2 ∧ fk ρ2 = .ok k ρ3 ∧ k.key = some (kf d) ∧ fv ρ3 = .ok (vf d) ρ4 ∧ outBlk ρ ρ4 = ρ) → M.dcL vs g tt fk fv (ds.map δ) acc ρ = .ok (acc ++ ds.map fun d => (kf d, vf d)) ρ
  | [], acc, _, _, _ => by rw [List.map_nil, List.map_nil, List.append_nil]; rfl
  | d :: ds, acc, hl, hn, h => by
    obtain ⟨ρ1, ρ2, k, ρ3, ρ4, e1, e2, e3, e4, e5, e6⟩ := h d (List.mem_cons_self ..)
    rw [List.length_cons] at hl
    rw [List.map_cons] at hn
    have hk : kf d ∉ acc.map (·.1) := fun z => (List.nodup_append.mp hn).2.2 _ z _ (List.mem_cons_self ..) rfl
    show (match g (δ d) (inBlk ρ vs) with | none => Ret.no | some ρ1 => _) = _
    rw [e1]; dsimp only; rw [e2]; dsimp only; rw [e3]; dsimp only; rw [e5]; dsimp only; rw [e4]; dsimp only
    rw [if_pos (by omega), e6, putD_new hk, dcL_mapI δ kf vf ds (acc ++ [(kf d, vf d)]) (by rw [List.length_append, List.length_singleton]; omega) (by
      rw [List.map_append, List.append_assoc]; exact hn) fun d' hd => h d' (List.mem_cons_of_mem _ hd), List.append_assoc, List.map_cons]; rfl
theorem dc_mapI {ι : Type} {vs : List Nat} {g : Tg} {tt : M Bool} {fk fv : M D} {ρ : Sls} (δ : ι → D) (kf : ι → Key) (vf : ι → D) (ds : List ι) (hl : ds.length ≤ 16777216) (hn : (ds.map kf).Nodup)
    (h : ∀ d ∈ ds, ∃ ρ1 ρ2 k ρ3 ρ4, g (δ d) (inBlk ρ vs) = some ρ1 ∧ tt ρ1 = .ok true ρ2 ∧ fk ρ2 = .ok k ρ3 ∧ k.key = some (kf d) ∧ fv ρ3 = .ok (vf d) ρ4 ∧ outBlk ρ ρ4 = ρ) : M.dc vs g tt fk fv (ds.map δ) ρ = .ok (.dct (ds.map fun d => (kf d, vf d))) ρ := by
  unfold M.dc M.bind'
  rw [dcL_mapI δ kf vf ds [] (by simpa using hl) (by simpa using hn) h]
  rfl
theorem loop_foldI {ι S : Type} {g : Tg} {body : M Out} (δ : ι → D) (Rl : S → Sls → Prop) (step : S → ι → S) : ∀ (l : List ι) (s : S) (ρ : Sls), Rl s ρ →
    (∀ i ∈ l, ∀ s ρ, Rl s ρ → ∃ ρ1 ρ2, g (δ i) ρ = some ρ1 ∧ body ρ1 = .ok .nx ρ2 ∧ Rl (step s i) ρ2) → ∃ ρ', M.loop g body (l.map δ) ρ = .ok .nx ρ' ∧ Rl (l.foldl step s) ρ'
  | [], s, ρ, h0, _ => ⟨ρ, rfl, h0⟩
  | d :: ds, s, ρ, h0, h => by
    obtain ⟨ρ1, ρ2, e1, e2, h2⟩ := h d (List.mem_cons_self ..) s ρ h0
    obtain ⟨ρ', e3, h3⟩ := loop_foldI δ Rl step ds (step s d) ρ2 h2 fun d' hd => h d' (List.mem_cons_of_mem _ hd)
    refine ⟨ρ', ?_, h3⟩
    show (match g (δ d) ρ with | none => Ret.no | some ρ1 => _) = _
    rw [e1]; dsimp only; rw [e2]; exact e3
theorem seq_foldI {ι S : Type} {fi : M (List D)} {g : Tg} {body k : M Out} {ρ0 ρ : Sls} {α : Type} {fin : Ret Out → α} {r : α} (δ : ι → D) (Rl : S → Sls → Prop) (step : S → ι → S) (l : List ι) (s : S) (hfi : fi ρ0 = .ok (l.map δ) ρ) (h0 : Rl s ρ)
    (h : ∀ i ∈ l, ∀ s ρ, Rl s ρ → ∃ ρ1 ρ2, g (δ i) ρ = some ρ1 ∧ body ρ1 = .ok .nx ρ2 ∧ Rl (step s i) ρ2) (hk : ∀ ρ', Rl (l.foldl step s) ρ' → fin (k ρ') = r) : fin (((fi.bind (M.loop g body)).seq k) ρ0) = r := by
  obtain ⟨ρ', e, h2⟩ := loop_foldI δ Rl step l s ρ h0 h
  have e2 : ((fi.bind (M.loop g body)).seq k) ρ0 = k ρ' := by
    unfold M.seq M.bind
    rw [hfi]; dsimp only; rw [e]
  rw [e2]; exact hk ρ' h2
end DL

set_option Elab.async false
set_option linter.all false
/-! COX: words of letters, their moves, and what they send rows to; whoever keeps all single rows above is alike to the empty word. Plain mathematics. -/
namespace Cox
/-- letters 0 .. n - 1, the angle number of each two (0: none), the shares -/
structure Sys where
  n : Nat
  m : Nat → Nat → Nat
  c : Nat → Nat → Int
  msym : ∀ x y, m x y = m y x
  cs : ∀ x, c x x = -2
  ok : ∀ x y, x ≠ y → (m x y = 2 ∧ c x y = 0 ∧ c y x = 0) ∨ (m x y = 3 ∧ c x y = 1 ∧ c y x = 1) ∨ (m x y = 4 ∧ c x y = 1 ∧ c y x = 2) ∨ (m x y = 4 ∧ c x y = 2 ∧ c y x = 1) ∨
    (m x y = 6 ∧ c x y = 1 ∧ c y x = 3) ∨ (m x y = 6 ∧ c x y = 3 ∧ c y x = 1) ∨ (m x y = 0 ∧ c x y = 2 ∧ c y x = 2)

/-- k letters, x and y by turns, x first -/
def alt (x y : Nat) : Nat → List Nat
  | 0 => []
  | k + 1 => x :: alt y x k
/-- k letters by turns, t last -/
def alte (t s : Nat) : Nat → List Nat
  | 0 => []
  | k + 1 => alte s t k ++ [t]

abbrev W := List Nat
/-- alike: turnings, strikings, puttings -/
inductive Al (S : Sys) : W → W → Prop
  | refl (a : W) : Al S a a
  | symm {a b : W} : Al S a b → Al S b a
  | trans {a b d : W} : Al S a b → Al S b d → Al S a d
  | turn (u v : W) (x y : Nat) (hx : x < S.n) (hy : y < S.n) (ne : x ≠ y) (hm : S.m x y ≠ 0) : Al S (u ++ alt x y (S.m x y) ++ v) (u ++ alt y x (S.m x y) ++ v)
  | strike (u v : W) (x : Nat) (hx : x < S.n) : Al S (u ++ [x, x] ++ v) (u ++ v)

def WF (S : Sys) (a : W) : Prop := ∀ x ∈ a, x < S.n
variable {S : Sys}
theorem alt_mem {x y z : Nat} : ∀ {k : Nat}, z ∈ alt x y k → z = x ∨ z = y
  | 0, h => by simp [alt] at h
  | k + 1, h => by
    rw [alt, List.mem_cons] at h
    rcases h with h | h
    · exact .inl h
    · exact (alt_mem h).symm
theorem alt_len (x y : Nat) : ∀ k : Nat, (alt x y k).length = k
  | 0 => rfl
  | k + 1 => by rw [alt, List.length_cons, alt_len y x k]
theorem alte_len (x y : Nat) : ∀ k : Nat, (alte x y k).length = k
  | 0 => rfl
  | k + 1 => by rw [alte, List.length_append, alte_len y x k]; rfl
theorem alte_mem {x y z : Nat} : ∀ {k : Nat}, z ∈ alte x y k → z = x ∨ z = y
  | 0, h => by simp [alte] at h
  | k + 1, h => by
    rw [alte, List.mem_append, List.mem_singleton] at h
    rcases h with h | h
    · exact (alte_mem h).symm
    · exact .inl h
theorem WF.append {a b : W} (h : WF S a) (k : WF S b) : WF S (a ++ b) := fun x hx => (List.mem_append.mp hx).elim (h x) (k x)
theorem WF.left {a b : W} (h : WF S (a ++ b)) : WF S a := fun x hx => h x (List.mem_append.mpr (.inl hx))
theorem WF.right {a b : W} (h : WF S (a ++ b)) : WF S b := fun x hx => h x (List.mem_append.mpr (.inr hx))
theorem WF.one {x : Nat} (h : x < S.n) : WF S [x] := fun y hy => by rw [List.mem_singleton] at hy; rw [hy]; exact h
theorem WF.of1 {x : Nat} (h : WF S [x]) : x < S.n := h x (List.mem_singleton.mpr rfl)
theorem WF.alt {x y k : Nat} (hx : x < S.n) (hy : y < S.n) : WF S (alt x y k) := fun z hz => by
  rcases alt_mem hz with rfl | rfl <;> assumption
theorem WF.alte {x y k : Nat} (hx : x < S.n) (hy : y < S.n) : WF S (alte x y k) := fun z hz => by
  rcases alte_mem hz with rfl | rfl <;> assumption
theorem WF.reverse {a : W} (h : WF S a) : WF S a.reverse := fun x hx => h x (List.mem_reverse.mp hx)

theorem Al.wf {a b : W} (h : Al S a b) : WF S a ↔ WF S b := by
  induction h with
  | refl => exact Iff.rfl
  | symm _ ih => exact ih.symm
  | trans _ _ i1 i2 => exact i1.trans i2
  | turn u v x y hx hy ne hm => exact ⟨fun h => (h.left.left.append (.alt hy hx)).append h.right, fun h => (h.left.left.append (.alt hx hy)).append h.right⟩
  | strike u v x hx =>
    refine ⟨fun h => h.left.left.append h.right, fun h => (h.left.append fun z hz => ?_).append h.right⟩
    simp at hz; rw [hz]; exact hx
theorem Al.par {a b : W} (h : Al S a b) : a.length % 2 = b.length % 2 := by
  induction h with
  | refl => rfl
  | symm _ ih => exact ih.symm
  | trans _ _ i1 i2 => exact i1.trans i2
  | turn u v x y hx hy ne hm => simp [alt_len]
  | strike u v x hx => simp; omega
theorem Al.ctx {a b : W} (u v : W) (h : Al S a b) : Al S (u ++ a ++ v) (u ++ b ++ v) := by
  induction h with
  | refl => exact .refl _
  | symm _ ih => exact ih.symm
  | trans _ _ i1 i2 => exact i1.trans i2
  | turn u' v' x y hx hy ne hm =>
    have := Al.turn (S := S) (u ++ u') (v' ++ v) x y hx hy ne hm
    simpa [List.append_assoc] using this
  | strike u' v' x hx =>
    have := Al.strike (S := S) (u ++ u') (v' ++ v) x hx
    simpa [List.append_assoc] using this
theorem Al.app {a b d e : W} (h : Al S a b) (k : Al S d e) : Al S (a ++ d) (b ++ e) := by
  have h1 := h.ctx [] d
  have h2 := k.ctx b []
  simp only [List.nil_append, List.append_nil] at h1 h2
  exact h1.trans h2
theorem Al.eq {a b : W} (h : a = b) : Al S a b := h ▸ .refl a
theorem al_xx {x : Nat} (hx : x < S.n) : Al S [x, x] [] := by simpa using Al.strike (S := S) [] [] x hx
theorem alt_rev (x y : Nat) : ∀ k : Nat, (alt x y k).reverse = if k % 2 = 0 then alt y x k else alt x y k := by
  have snoc : ∀ k x y, alt x y (k + 1) = alt x y k ++ [if k % 2 = 0 then x else y] := by
    intro k
    induction k with
    | zero => intro x y; rfl
    | succ k ih =>
      intro x y
      rw [alt, ih y x, alt]
      have : (if k % 2 = 0 then y else x) = if (k + 1) % 2 = 0 then x else y := by
        by_cases h : k % 2 = 0
        · rw [if_pos h, if_neg (by omega)]
        · rw [if_neg h, if_pos (by omega)]
      rw [this]; rfl
  intro k
  induction k generalizing x y with
  | zero => rfl
  | succ k ih =>
    rw [snoc k x y, List.reverse_append, ih]
    by_cases h : k % 2 = 0
    · have q := snoc k x y
      rw [if_pos h] at q
      rw [if_pos h, if_pos h, if_neg (by omega)]
      simpa [alt] using q
    · rw [if_neg h, if_neg h, if_pos (by omega)]; simp [alt]
theorem Al.rev {a b : W} (h : Al S a b) : Al S a.reverse b.reverse := by
  induction h with
  | refl => exact .refl _
  | symm _ ih => exact ih.symm
  | trans _ _ i1 i2 => exact i1.trans i2
  | turn u v x y hx hy ne hm =>
    simp only [List.reverse_append, alt_rev]
    by_cases q : S.m x y % 2 = 0
    · rw [if_pos q, if_pos q]
      have := Al.turn (S := S) v.reverse u.reverse y x hy hx (Ne.symm ne) (by rw [S.msym]; exact hm)
      rw [S.msym y x] at this
      simpa [List.append_assoc] using this
    · rw [if_neg q, if_neg q]
      have := Al.turn (S := S) v.reverse u.reverse x y hx hy ne hm
      simpa [List.append_assoc] using this
  | strike u v x hx =>
    have := Al.strike (S := S) v.reverse u.reverse x hx
    simpa [List.reverse_append, List.append_assoc] using this
theorem al_inv : ∀ {a : W}, WF S a → Al S (a ++ a.reverse) []
  | [], _ => .refl _
  | x :: a, h => by
    have h1 : x < S.n := h x (List.mem_cons_self ..)
    have ih := al_inv (a := a) fun y hy => h y (List.mem_cons_of_mem _ hy)
    have := ih.ctx [x] [x]
    have e : x :: a ++ (x :: a).reverse = [x] ++ (a ++ a.reverse) ++ [x] := by simp
    rw [e]
    exact this.trans (by simpa using al_xx h1)
theorem al_inv' {a : W} (h : WF S a) : Al S (a.reverse ++ a) [] := by simpa using al_inv h.reverse
/-- turnings for words told by their last letter -/
theorem turn_e {s t : Nat} (hs : s < S.n) (ht : t < S.n) (ne : s ≠ t) (hm : S.m s t ≠ 0) : Al S (alte t s (S.m s t)) (alte s t (S.m s t)) := by
  have h1 := Al.turn (S := S) [] [] s t hs ht ne hm
  have h2 := Al.turn (S := S) [] [] t s ht hs (Ne.symm ne) (by rw [S.msym]; exact hm)
  rw [S.msym t s] at h2
  rcases S.ok s t ne with ⟨e, _⟩ | ⟨e, _⟩ | ⟨e, _⟩ | ⟨e, _⟩ | ⟨e, _⟩ | ⟨e, _⟩ | ⟨e, _⟩
  · rw [e] at h1 h2 ⊢; simpa [alt, alte] using h1
  · rw [e] at h1 h2 ⊢; simpa [alt, alte] using h2
  · rw [e] at h1 h2 ⊢; simpa [alt, alte] using h1
  · rw [e] at h1 h2 ⊢; simpa [alt, alte] using h1
  · rw [e] at h1 h2 ⊢; simpa [alt, alte] using h1
  · rw [e] at h1 h2 ⊢; simpa [alt, alte] using h1
  · exact (hm e).elim

/-! ### rows -/
abbrev R := Nat → Int
def dot (S : Sys) (x : Nat) (r : R) : Nat → Int
  | 0 => 0
  | k + 1 => dot S x r k + S.c x k * r k
/-- what is added at x -/
def add (S : Sys) (x : Nat) (r : R) : Int := dot S x r S.n
def one (x : Nat) : R := fun z => if z = x then 1 else 0
def lin (a : Int) (r : R) (b : Int) (q : R) : R := fun z => a * r z + b * q z
def snd (S : Sys) (x : Nat) (r : R) : R := fun z => if z = x then r x + add S x r else r z
def act (S : Sys) : W → R → R
  | [], r => r
  | x :: w, r => snd S x (act S w r)
theorem dot_lin (x : Nat) (a b : Int) (r q : R) : ∀ k, dot S x (lin a r b q) k = a * dot S x r k + b * dot S x q k
  | 0 => by simp [dot]
  | k + 1 => by
    rw [dot, dot, dot, dot_lin x a b r q k, lin]
    have e1 : S.c x k * (a * r k + b * q k) = a * (S.c x k * r k) + b * (S.c x k * q k) := by
      rw [Int.mul_add]; congr 1 <;> (rw [← Int.mul_assoc, ← Int.mul_assoc, Int.mul_comm (S.c x k)])
    rw [e1, Int.mul_add, Int.mul_add]; omega
theorem add_lin (x : Nat) (a b : Int) (r q : R) : add S x (lin a r b q) = a * add S x r + b * add S x q := dot_lin x a b r q S.n
theorem dot_one (x y : Nat) : ∀ k, dot S x (one y) k = if y < k then S.c x y else 0
  | 0 => by simp [dot]
  | k + 1 => by
    rw [dot, dot_one x y k, one]
    by_cases h : k = y
    · subst h; simp
    · have : (if k = y then (1 : Int) else 0) = 0 := if_neg h
      rw [this, Int.mul_zero, Int.add_zero]
      by_cases q : y < k
      · rw [if_pos q, if_pos (by omega)]
      · rw [if_neg q, if_neg (by omega)]
theorem add_one {x y : Nat} (hy : y < S.n) : add S x (one y) = S.c x y := by rw [add, dot_one, if_pos hy]
theorem snd_eq (x : Nat) (r : R) : snd S x r = lin 1 r (add S x r) (one x) := by
  funext z
  unfold snd lin one
  by_cases h : z = x
  · subst h; simp
  · simp [h]
theorem snd_lin (x : Nat) (a b : Int) (r q : R) : snd S x (lin a r b q) = lin a (snd S x r) b (snd S x q) := by
  funext z
  unfold snd
  by_cases h : z = x
  · subst h
    simp only [if_pos, lin, add_lin]
    rw [Int.mul_add, Int.mul_add]; omega
  · simp [h, lin]
theorem act_lin (a b : Int) (r q : R) : ∀ w : W, act S w (lin a r b q) = lin a (act S w r) b (act S w q)
  | [] => rfl
  | x :: w => by rw [act, act_lin a b r q w, snd_lin]; rfl
theorem act_app (r : R) : ∀ u v : W, act S (u ++ v) r = act S u (act S v r)
  | [], _ => rfl
  | x :: u, v => by rw [List.cons_append, act, act_app r u v]; rfl
theorem snd_snd {x : Nat} (hx : x < S.n) (r : R) : snd S x (snd S x r) = r := by
  have e : add S x (snd S x r) = - add S x r := by
    rw [snd_eq, add_lin, add_one hx, S.cs]; omega
  funext z
  rw [snd_eq x (snd S x r), e, snd_eq x r]
  unfold lin
  rw [Int.one_mul, Int.one_mul, Int.neg_mul]; omega

/-! two letters -/
/-- r with a at s more, b at t more -/
def pl (r : R) (s t : Nat) (a b : Int) : R := fun z => r z + (a * one s z + b * one t z)
theorem add_pl {x s t : Nat} (hs : s < S.n) (ht : t < S.n) (r : R) (a b : Int) : add S x (pl r s t a b) = add S x r + a * S.c x s + b * S.c x t := by
  have e : pl r s t a b = lin 1 r 1 (lin a (one s) b (one t)) := by funext z; simp [pl, lin]
  rw [e, add_lin, add_lin, add_one hs, add_one ht]; omega
theorem snd_pl1 {s t : Nat} (hs : s < S.n) (ht : t < S.n) (ne : s ≠ t) (r : R) (a b : Int) : snd S s (pl r s t a b) = pl r s t (add S s r - a + b * S.c s t) b := by
  funext z
  rw [snd_eq, add_pl hs ht, S.cs]
  unfold lin pl
  by_cases h : z = s
  · subst h; have : one t z = 0 := if_neg ne
    have h1 : one z z = 1 := if_pos rfl
    rw [this, h1]; omega
  · have : one s z = 0 := if_neg h
    rw [this]; omega
theorem snd_pl2 {s t : Nat} (hs : s < S.n) (ht : t < S.n) (ne : s ≠ t) (r : R) (a b : Int) : snd S t (pl r s t a b) = pl r s t a (add S t r - b + a * S.c t s) := by
  funext z
  rw [snd_eq, add_pl hs ht, S.cs]
  unfold lin pl
  by_cases h : z = t
  · subst h; have : one s z = 0 := if_neg (Ne.symm ne)
    have h1 : one z z = 1 := if_pos rfl
    rw [this, h1]; omega
  · have : one t z = 0 := if_neg h
    rw [this]; omega
theorem pl_zero (r : R) (s t : Nat) : pl r s t 0 0 = r := by funext z; simp [pl]
theorem turn_act {s t : Nat} (hs : s < S.n) (ht : t < S.n) (ne : s ≠ t) (hm : S.m s t ≠ 0) (r : R) : act S (alt s t (S.m s t)) r = act S (alt t s (S.m s t)) r := by
  rw [← pl_zero r s t]
  rcases S.ok s t ne with ⟨e, c1, c2⟩ | ⟨e, c1, c2⟩ | ⟨e, c1, c2⟩ | ⟨e, c1, c2⟩ | ⟨e, c1, c2⟩ | ⟨e, c1, c2⟩ | ⟨e, c1, c2⟩
  case inr.inr.inr.inr.inr.inr => exact (hm e).elim
  all_goals
    rw [e]
    simp only [alt, act, snd_pl1 hs ht ne, snd_pl2 hs ht ne, c1, c2]
    congr 1 <;> omega
theorem Al.act {a b : W} (h : Al S a b) (r : R) : act S a r = act S b r := by
  induction h generalizing r with
  | refl => rfl
  | symm _ ih => exact (ih r).symm
  | trans _ _ i1 i2 => exact (i1 r).trans (i2 r)
  | turn u v x y hx hy ne hm => rw [act_app, act_app, act_app, act_app, turn_act hx hy ne hm]
  | strike u v x hx => rw [act_app, act_app, act_app]; simp only [Cox.act, snd_snd hx]

/-- before the angle number is come to, two letters by turns keep the first one above -/
theorem alte_pos {s t : Nat} (hs : s < S.n) (ht : t < S.n) (ne : s ≠ t) (k : Nat) (hk : S.m s t = 0 ∨ k < S.m s t) : ∃ a b : Int, 0 ≤ a ∧ 0 ≤ b ∧ act S (alte t s k) (one s) = lin a (one s) b (one t) := by
  have e0 : ∀ a b, lin a (one s) b (one t) = pl (fun _ => 0) s t a b := fun a b => by funext z; simp [lin, pl]
  have a0 : ∀ x, add S x (fun _ => 0) = 0 := fun x => by
    have : ∀ k, dot S x (fun _ => 0) k = 0 := fun k => by
      induction k with
      | zero => rfl
      | succ k ih => rw [dot, ih]; simp
    exact this _
  have e1 : one s = pl (fun _ => 0) s t 1 0 := by funext z; simp [pl]
  have p1 : ∀ a b, snd S s (pl (fun _ => 0) s t a b) = pl (fun _ => 0) s t (- a + b * S.c s t) b := fun a b => by rw [snd_pl1 hs ht ne, a0]; congr 1; omega
  have p2 : ∀ a b, snd S t (pl (fun _ => 0) s t a b) = pl (fun _ => 0) s t a (- b + a * S.c t s) := fun a b => by rw [snd_pl2 hs ht ne, a0]; congr 1; omega
  simp only [e0]
  rw [e1]
  rcases S.ok s t ne with ⟨e, c1, c2⟩ | ⟨e, c1, c2⟩ | ⟨e, c1, c2⟩ | ⟨e, c1, c2⟩ | ⟨e, c1, c2⟩ | ⟨e, c1, c2⟩ | ⟨e, c1, c2⟩
  case inr.inr.inr.inr.inr.inr =>
    -- no angle number: both numbers grow
    have go : ∀ (k : Nat), (∀ a b : Int, 0 ≤ b → b ≤ a → ∃ a' b' : Int, 0 ≤ a' ∧ 0 ≤ b' ∧ act S (alte t s k) (pl (fun _ => 0) s t a b) = pl (fun _ => 0) s t a' b') ∧
        (∀ a b : Int, 0 ≤ a → a ≤ b → ∃ a' b' : Int, 0 ≤ a' ∧ 0 ≤ b' ∧ act S (alte s t k) (pl (fun _ => 0) s t a b) = pl (fun _ => 0) s t a' b') := by
      intro k
      induction k with
      | zero => exact ⟨fun a b h1 h2 => ⟨a, b, by omega, h1, rfl⟩, fun a b h1 h2 => ⟨a, b, h1, by omega, rfl⟩⟩
      | succ k ih =>
        refine ⟨fun a b h1 h2 => ?_, fun a b h1 h2 => ?_⟩
        · obtain ⟨a', b', q1, q2, q3⟩ := ih.2 a (- b + a * S.c t s) (by omega) (by rw [c2]; omega)
          refine ⟨a', b', q1, q2, ?_⟩
          rw [alte, act_app, ← q3]
          show act S (alte s t k) (snd S t (pl _ s t a b)) = _
          rw [p2]
        · obtain ⟨a', b', q1, q2, q3⟩ := ih.1 (- a + b * S.c s t) b (by omega) (by rw [c1]; omega)
          refine ⟨a', b', q1, q2, ?_⟩
          rw [alte, act_app, ← q3]
          show act S (alte t s k) (snd S s (pl _ s t a b)) = _
          rw [p1]
    exact (go k).1 1 0 (by decide) (by decide)
  all_goals
    have hk' : k < S.m s t := hk.resolve_left (by omega)
    rw [e] at hk'
    have cs : k = 0 ∨ k = 1 ∨ k = 2 ∨ k = 3 ∨ k = 4 ∨ k = 5 := by omega
    rcases cs with rfl | rfl | rfl | rfl | rfl | rfl
    all_goals first
      | (exfalso; omega)
      | (simp only [alte, List.nil_append, List.cons_append, act, p1, p2, c1, c2]; exact ⟨_, _, by decide, by decide, rfl⟩)
end Cox

set_option Elab.async false
set_option linter.all false
/-! COX2: shortest words; what is sent above. -/
namespace Cox
variable {S : Sys}
def Red (S : Sys) (a : W) : Prop := ∀ b, Al S a b → a.length ≤ b.length
def Nn (r : R) : Prop := ∀ z, 0 ≤ r z
def Np (r : R) : Prop := ∀ z, r z ≤ 0
theorem red_ex (a : W) : ∃ b, Al S a b ∧ Red S b := by
  suffices h : ∀ k (a : W), a.length ≤ k → ∃ b, Al S a b ∧ Red S b from h _ a (Nat.le_refl _)
  intro k
  induction k with
  | zero => exact fun a h => ⟨a, .refl _, fun b _ => by omega⟩
  | succ k ih =>
    intro a h
    by_cases r : Red S a
    · exact ⟨a, .refl _, r⟩
    · have : ∃ b, Al S a b ∧ b.length < a.length := Classical.byContradiction fun n => r fun b hb => by
        exact Nat.le_of_not_lt fun q => n ⟨b, hb, q⟩
      obtain ⟨b, h1, h2⟩ := this
      obtain ⟨d, h3, h4⟩ := ih b (by omega)
      exact ⟨d, h1.trans h3, h4⟩
theorem Red.sub {u a v : W} (h : Red S (u ++ a ++ v)) : Red S a := fun b hb => by
  have := h _ (hb.ctx u v)
  simp only [List.length_append] at this; omega
theorem Red.left {a v : W} (h : Red S (a ++ v)) : Red S a := Red.sub (u := []) (v := v) (by simpa using h)
theorem Red.right {u a : W} (h : Red S (u ++ a)) : Red S a := Red.sub (u := u) (v := []) (by simpa using h)
theorem Red.al {a b : W} (h : Red S a) (e : Al S a b) (l : b.length = a.length) : Red S b := fun d hd => by
  have := h d (e.trans hd); omega
theorem red_nil : Red S [] := fun _ _ => Nat.zero_le _
theorem snoc_cases : ∀ u : W, u = [] ∨ ∃ u0 x, u = u0 ++ [x]
  | [] => .inl rfl
  | a :: u => by
    rcases snoc_cases u with rfl | ⟨u0, x, rfl⟩
    · exact .inr ⟨[], a, rfl⟩
    · exact .inr ⟨a :: u0, x, rfl⟩
theorem app_xx {w : W} {x : Nat} (hx : x < S.n) : Al S (w ++ [x] ++ [x]) w := by simpa using Al.strike (S := S) w [] x hx
/-- a letter that does not make longer stands at the end of some shortest word -/
theorem down {w : W} {s : Nat} (hs : s < S.n) (r : Red S w) (n : ¬ Red S (w ++ [s])) : ∃ v, Al S w (v ++ [s]) ∧ v.length + 1 = w.length ∧ Red S v ∧ Red S (v ++ [s]) ∧ Al S (w ++ [s]) v := by
  obtain ⟨v, h1, h2⟩ := red_ex (S := S) (w ++ [s])
  have hl : v.length < w.length + 1 := Classical.byContradiction fun q => n fun b hb => by
    have := h2 b (h1.symm.trans hb)
    simp only [List.length_append, List.length_singleton]; omega
  have hp := h1.par
  simp only [List.length_append, List.length_singleton] at hp
  have e : Al S w (v ++ [s]) := (app_xx (w := w) hs).symm.trans (h1.app (.refl [s]))
  have := r _ e
  simp only [List.length_append, List.length_singleton] at this
  have hl2 : v.length + 1 = w.length := by omega
  exact ⟨v, e, hl2, h2, r.al e (by simp; omega), h1⟩
/-- of a shortest word as many letters s, t as can be are brought to its end -/
theorem split2 {w : W} {s t : Nat} (hs : s < S.n) (ht : t < S.n) (r : Red S w) : ∃ v u, Al S w (v ++ u) ∧ v.length + u.length = w.length ∧ (∀ x ∈ u, x = s ∨ x = t) ∧ Red S (v ++ [s]) ∧ Red S (v ++ [t]) := by
  suffices h : ∀ k (v u : W), v.length ≤ k → Al S w (v ++ u) → v.length + u.length = w.length → (∀ x ∈ u, x = s ∨ x = t) → ∃ v u, Al S w (v ++ u) ∧ v.length + u.length = w.length ∧ (∀ x ∈ u, x = s ∨ x = t) ∧ Red S (v ++ [s]) ∧ Red S (v ++ [t]) from
    h _ w [] (Nat.le_refl _) (by simpa using Al.refl w) (by simp) (fun x hx => by simp at hx)
  intro k
  induction k with
  | zero =>
    intro v u h1 h2 h3 h4
    have : v = [] := List.eq_nil_of_length_eq_zero (by omega)
    subst this
    have one : ∀ x, Red S ([] ++ [x]) := fun x b hb => by
      have := hb.par
      simp at this ⊢
      rcases b with _ | ⟨y, b⟩
      · simp at this
      · simp
    exact ⟨[], u, h2, h3, h4, one s, one t⟩
  | succ k ih =>
    intro v u h1 h2 h3 h4
    have rv : Red S v := Red.left (r.al h2 (by rw [List.length_append]; exact h3))
    have step : ∀ x, x < S.n → (x = s ∨ x = t) → ¬ Red S (v ++ [x]) → ∃ v u, Al S w (v ++ u) ∧ v.length + u.length = w.length ∧ (∀ x ∈ u, x = s ∨ x = t) ∧ Red S (v ++ [s]) ∧ Red S (v ++ [t]) := fun x hx hst n => by
      obtain ⟨v', e1, e2, _, _, _⟩ := down hx rv n
      refine ih v' (x :: u) (by omega) (h2.trans ?_) (by simp; omega) (fun y hy => ?_)
      · simpa using e1.app (.refl u)
      · rcases List.mem_cons.mp hy with rfl | hy
        · exact hst
        · exact h4 y hy
    by_cases n1 : Red S (v ++ [s])
    · by_cases n2 : Red S (v ++ [t])
      · exact ⟨v, u, h2, h3, h4, n1, n2⟩
      · exact step t ht (.inr rfl) n2
    · exact step s hs (.inl rfl) n1
/-- a shortest word of two letters has them by turns -/
theorem by_turns : ∀ (k : Nat) (u : W) (s t : Nat), s < S.n → t < S.n → u.length ≤ k → Red S u → (∀ x ∈ u, x = s ∨ x = t) → (u = [] ∨ ∃ u0, u = u0 ++ [t]) → u = alte t s u.length
  | 0, u, s, t, _, _, h, _, _, _ => by
    have : u = [] := List.eq_nil_of_length_eq_zero (by omega)
    subst this; rfl
  | k + 1, u, s, t, hs, ht, h, r, hx, e => by
    rcases e with rfl | ⟨u0, rfl⟩
    · rfl
    · simp only [List.length_append, List.length_singleton] at h ⊢
      have e0 : u0 = [] ∨ ∃ u1, u0 = u1 ++ [s] := by
        rcases snoc_cases u0 with rfl | ⟨u1, x, rfl⟩
        · exact .inl rfl
        · refine .inr ⟨u1, ?_⟩
          rcases hx x (by simp) with rfl | rfl
          · rfl
          · exfalso
            have := r _ (app_xx (w := u1) ht)
            simp only [List.length_append, List.length_singleton] at this; omega
      have ih := by_turns k u0 t s ht hs (by omega) r.left (fun x hm => (hx x (List.mem_append.mpr (.inl hm))).symm) e0
      rw [alte, ← ih]
theorem alte_add (t s m : Nat) : ∀ i : Nat, ∃ p : W, alte t s (i + m) = p ++ alte t s m ∧ p.length = i ∧ ∀ x ∈ p, x = t ∨ x = s := by
  induction m generalizing t s with
  | zero => exact fun i => ⟨alte t s i, by simp [alte], alte_len t s i, fun x hx => alte_mem hx⟩
  | succ m ih =>
    intro i
    obtain ⟨p, h1, h2, h3⟩ := ih s t i
    exact ⟨p, by rw [← Nat.add_assoc, alte, h1, alte, List.append_assoc], h2, fun x hx => (h3 x hx).symm⟩
/-- so many letters by turns end with either letter -/
theorem swap_end {s t j : Nat} (hs : s < S.n) (ht : t < S.n) (ne : s ≠ t) (hm : S.m s t ≠ 0) (hj : S.m s t ≤ j) : ∃ p : W, Al S (alte t s j) (p ++ [s]) ∧ p.length + 1 = j ∧ WF S p := by
  obtain ⟨p, h1, h2, h3⟩ := alte_add t s (S.m s t) (j - S.m s t)
  have h1 : alte t s j = p ++ alte t s (S.m s t) := by rw [← h1]; congr 1; omega
  obtain ⟨q, hq⟩ : ∃ q, S.m s t = q + 1 := ⟨S.m s t - 1, by omega⟩
  refine ⟨p ++ alte t s q, ?_, ?_, ?_⟩
  · rw [h1]
    exact ((Al.refl (S := S) p).app (turn_e hs ht ne hm)).trans (Al.eq (by rw [hq, alte, List.append_assoc]))
  · rw [List.length_append, alte_len]; omega
  · refine WF.append (fun x hx => ?_) (.alte ht hs)
    rcases h3 x hx with rfl | rfl <;> assumption
theorem nn_one (s : Nat) : Nn (one s) := fun z => by unfold one; split <;> decide
theorem Nn.lin {a b : Int} {r q : R} (ha : 0 ≤ a) (hb : 0 ≤ b) (h : Nn r) (k : Nn q) : Nn (lin a r b q) := fun z => Int.add_nonneg (Int.mul_nonneg ha (h z)) (Int.mul_nonneg hb (k z))
theorem act_neg (w : W) (r : R) : act S w (fun z => - r z) = fun z => - act S w r z := by
  have e : (fun z => - r z) = lin (-1) r 0 r := by funext z; simp [lin]
  rw [e, act_lin]; funext z; simp [lin]
theorem snd_self {s : Nat} (hs : s < S.n) : snd S s (one s) = fun z => - one s z := by
  funext z
  rw [snd_eq, add_one hs, S.cs]
  unfold lin; omega
/-- THE THEOREM: a letter that makes longer is sent above -/
theorem pos : ∀ (k : Nat) (w : W) (s : Nat), w.length ≤ k → WF S w → s < S.n → Red S w → Red S (w ++ [s]) → Nn (act S w (one s))
  | 0, w, s, h, _, _, _, _ => by
    have : w = [] := List.eq_nil_of_length_eq_zero (by omega)
    subst this; exact nn_one s
  | k + 1, w, s, h, hw, hs, r, rs => by
    rcases snoc_cases w with rfl | ⟨w0, t, rfl⟩
    · exact nn_one s
    · have ht : t < S.n := hw t (by simp)
      have ne : s ≠ t := fun z => by
        subst z
        have := rs _ (app_xx (w := w0) hs)
        simp only [List.length_append, List.length_singleton] at this; omega
      obtain ⟨v, u, e, l, hu, r1, r2⟩ := split2 hs ht r
      have wvu : WF S (v ++ u) := e.wf.mp hw
      have ru : Red S (v ++ u) := r.al e (by rw [List.length_append]; exact l)
      -- u is not empty: t makes v longer, but not the word
      have un : u ≠ [] := fun z => by
        subst z
        have e2 : Al S (v ++ [t]) w0 := by
          have := (e.symm.app (.refl [t])).trans (app_xx (w := w0) ht)
          simpa using this
        have := r2 _ e2
        simp only [List.length_append, List.length_singleton, List.length_nil] at this l; omega
      -- u ends with t
      have ut : ∃ u0, u = u0 ++ [t] := by
        rcases snoc_cases u with z | ⟨u0, x, rfl⟩
        · exact (un z).elim
        · rcases hu x (by simp) with rfl | rfl
          · exfalso
            have e2 : Al S (w0 ++ [t] ++ [x]) (v ++ u0) := by
              have := (e.app (.refl [x])).trans (Al.eq (S := S) (by simp : v ++ (u0 ++ [x]) ++ [x] = (v ++ u0) ++ [x] ++ [x]))
              exact this.trans (app_xx hs)
            have := rs _ e2
            simp only [List.length_append, List.length_singleton] at this l; omega
          · exact ⟨u0, rfl⟩
      have ua : u = alte t s u.length := by_turns _ u s t hs ht (Nat.le_refl _) ru.right hu (.inr ut)
      have hk : S.m s t = 0 ∨ u.length < S.m s t := by
        by_cases z : S.m s t = 0
        · exact .inl z
        · refine .inr (Classical.byContradiction fun q => ?_)
          obtain ⟨p, p1, p2, _⟩ := swap_end hs ht ne z (j := u.length) (by omega)
          rw [← ua] at p1
          have e2 : Al S (w0 ++ [t] ++ [s]) (v ++ p) := by
            have := (e.trans ((Al.refl v).app p1)).app (.refl [s])
            refine this.trans ((Al.eq (by simp)).trans (app_xx (w := v ++ p) hs))
          have := rs _ e2
          simp only [List.length_append, List.length_singleton] at this l; omega
      obtain ⟨a, b, ha, hb, q⟩ := alte_pos hs ht ne u.length hk
      have vl : v.length ≤ k := by
        simp only [List.length_append, List.length_singleton] at h l
        rcases ut with ⟨u0, rfl⟩
        simp only [List.length_append, List.length_singleton] at l; omega
      rw [e.act, act_app, ua, q, act_lin]
      exact .lin ha hb (pos k v s vl wvu.left hs ru.left r1) (pos k v t vl wvu.left ht ru.left r2)
/-- a letter that makes shorter is sent below -/
theorem neg {w : W} {s : Nat} (hw : WF S w) (hs : s < S.n) (r : Red S w) (n : ¬ Red S (w ++ [s])) : Np (act S w (one s)) := fun z => by
  obtain ⟨v, e, l, rv, rvs, _⟩ := down hs r n
  have hv : WF S v := (e.wf.mp hw).left
  have := pos _ v s (Nat.le_refl _) hv hs rv rvs z
  rw [e.act, act_app]
  show act S v (snd S s (one s)) z ≤ 0
  rw [snd_self hs, act_neg]
  show - act S v (one s) z ≤ 0
  omega
/-- what a word sends a single row to is above or below -/
theorem root {w : W} {s : Nat} (hw : WF S w) (hs : s < S.n) : Nn (act S w (one s)) ∨ Np (act S w (one s)) := by
  obtain ⟨v, e, r⟩ := red_ex (S := S) w
  rw [e.act]
  by_cases q : Red S (v ++ [s])
  · exact .inl (pos _ v s (Nat.le_refl _) (e.wf.mp hw) hs r q)
  · exact .inr (neg (e.wf.mp hw) hs r q)
theorem act_inv {w : W} (hw : WF S w) (r : R) : act S w (act S w.reverse r) = r := by rw [← act_app]; exact (al_inv hw).act r
theorem act_inv' {w : W} (hw : WF S w) (r : R) : act S w.reverse (act S w r) = r := by rw [← act_app]; exact (al_inv' hw).act r
theorem zero_act (w : W) : act S w (fun _ => 0) = fun _ => 0 := by
  have := act_neg (S := S) w (fun _ => 0)
  funext z
  have h := congrFun this z
  simp only [Int.neg_zero] at h; omega
theorem ne_zero {w : W} {s : Nat} (hw : WF S w) : act S w (one s) ≠ fun _ => 0 := fun h => by
  have := act_inv' hw (one s)
  rw [h, zero_act] at this
  have := congrFun this s
  simp [one] at this
/-- a word that sends all single rows above is alike to the empty one -/
theorem trivial_of {w : W} (hw : WF S w) (h : ∀ x, x < S.n → ¬ Np (act S w (one x))) : Al S w [] := by
  obtain ⟨v, e, r⟩ := red_ex (S := S) w
  rcases snoc_cases v with rfl | ⟨v0, x, rfl⟩
  · exact e
  · exfalso
    have hv := e.wf.mp hw
    have hx : x < S.n := hv x (by simp)
    refine h x hx fun z => ?_
    have := pos _ v0 x (Nat.le_refl _) hv.left hx r.left r z
    rw [e.act, act_app]
    show act S v0 (snd S x (one x)) z ≤ 0
    rw [snd_self hx, act_neg]
    show - act S v0 (one x) z ≤ 0
    omega
/-- words that send all single rows alike are alike -/
theorem al_of_act {a b : W} (ha : WF S a) (hb : WF S b) (h : ∀ x, x < S.n → act S a (one x) = act S b (one x)) : Al S a b := by
  have t : Al S (b.reverse ++ a) [] := trivial_of (hb.reverse.append ha) fun x hx n => by
    have := n x
    rw [act_app, h x hx, act_inv' hb] at this
    simp [one] at this
  have h1 := (Al.refl b).app t
  have h2 := (al_inv hb).app (Al.refl a)
  simp only [List.append_nil, List.nil_append] at h1 h2
  rw [← List.append_assoc] at h1
  exact h2.symm.trans h1
end Cox

set_option Elab.async false
set_option linter.all false
set_option maxRecDepth 100000
set_option maxHeartbeats 4000000
namespace KX
open PySem PySem.Spec PyProof.Rows L2 DL
@[local simp] theorem u_DL_slots_1 : type_of% @DL.slots.eq_1 := @DL.slots.eq_1
@[local simp] theorem u_DL_resB_1 : type_of% @DL.resB.eq_1 := @DL.resB.eq_1
@[local simp] theorem u_DL_resB_2 : type_of% @DL.resB.eq_2 := @DL.resB.eq_2
@[local simp] theorem u_DL_resB_3 : type_of% @DL.resB.eq_3 := @DL.resB.eq_3
@[local simp] theorem u_DL_resB_4 : type_of% @DL.resB.eq_4 := @DL.resB.eq_4
@[local simp] theorem u_DL_resD_1 : type_of% @DL.resD.eq_1 := @DL.resD.eq_1
@[local simp] theorem u_DL_resD_2 : type_of% @DL.resD.eq_2 := @DL.resD.eq_2
@[local simp] theorem u_DL_resD_3 : type_of% @DL.resD.eq_3 := @DL.resD.eq_3
@[local simp] theorem u_DL_resD_4 : type_of% @DL.resD.eq_4 := @DL.resD.eq_4
@[local simp] theorem u_DL_M_seq_1 : type_of% @DL.M.seq.eq_1 := @DL.M.seq.eq_1
@[local simp] theorem u_DL_M_bind_1 : type_of% @DL.M.bind.eq_1 := @DL.M.bind.eq_1
@[local simp] theorem u_DL_M_putO_1 : type_of% @DL.M.putO.eq_1 := @DL.M.putO.eq_1
@[local simp] theorem u_DL_ownL_1 : type_of% @DL.ownL.eq_1 := @DL.ownL.eq_1
@[local simp] theorem u_DL_ownL_2 : type_of% @DL.ownL.eq_2 := @DL.ownL.eq_2
@[local simp] theorem u_DL_ownL_3 : type_of% @DL.ownL.eq_3 := @DL.ownL.eq_3
@[local simp] theorem u_DL_reSl_1 : type_of% @DL.reSl.eq_1 := @DL.reSl.eq_1
@[local simp] theorem u_DL_reSl_2 : type_of% @DL.reSl.eq_2 := @DL.reSl.eq_2
@[local simp] theorem u_DL_M_two_1 : type_of% @DL.M.two.eq_1 := @DL.M.two.eq_1
@[local simp] theorem u_DL_M_ixO_1 : type_of% @DL.M.ixO.eq_1 := @DL.M.ixO.eq_1
@[local simp] theorem u_DL_M_ret_1 : type_of% @DL.M.ret.eq_1 := @DL.M.ret.eq_1
@[local simp] theorem u_DL_gAdd_1 : type_of% @DL.gAdd.eq_1 := @DL.gAdd.eq_1
@[local simp] theorem u_DL_gAdd_2 : type_of% @DL.gAdd.eq_2 := @DL.gAdd.eq_2
@[local simp] theorem u_DL_gAdd_3 : type_of% @DL.gAdd.eq_3 := @DL.gAdd.eq_3
@[local simp] theorem u_DL_gAdd_4 : type_of% @DL.gAdd.eq_4 := @DL.gAdd.eq_4
@[local simp] theorem u_DL_gAdd_5 : type_of% @DL.gAdd.eq_5 := @DL.gAdd.eq_5
@[local simp] theorem u_DL_M_var_1 : type_of% @DL.M.var.eq_1 := @DL.M.var.eq_1
@[local simp] theorem u_DL_gLtS_1 : type_of% @DL.gLtS.eq_1 := @DL.gLtS.eq_1
@[local simp] theorem u_DL_gLtS_2 : type_of% @DL.gLtS.eq_2 := @DL.gLtS.eq_2
@[local simp] theorem u_DL_gLtS_3 : type_of% @DL.gLtS.eq_3 := @DL.gLtS.eq_3
@[local simp] theorem u_DL_gGt_1 : type_of% @DL.gGt.eq_1 := @DL.gGt.eq_1
@[local simp] theorem u_DL_gLt_1 : type_of% @DL.gLt.eq_1 := @DL.gLt.eq_1
@[local simp] theorem u_DL_gLe_1 : type_of% @DL.gLe.eq_1 := @DL.gLe.eq_1
@[local simp] theorem u_DL_M_tb_1 : type_of% @DL.M.tb.eq_1 := @DL.M.tb.eq_1
@[local simp] theorem u_DL_M_tb_2 : type_of% @DL.M.tb.eq_2 := @DL.M.tb.eq_2
@[local simp] theorem u_DL_M_nx_1 : type_of% @DL.M.nx.eq_1 := @DL.M.nx.eq_1
@[local simp] theorem u_DL_M_tgt_1 : type_of% @DL.M.tgt.eq_1 := @DL.M.tgt.eq_1
@[local simp] theorem u_DL_Tg_name_1 : type_of% @DL.Tg.name.eq_1 := @DL.Tg.name.eq_1
@[local simp] theorem u_DL_gMod_1 : type_of% @DL.gMod.eq_1 := @DL.gMod.eq_1
@[local simp] theorem u_DL_gInt_1 : type_of% @DL.gInt.eq_1 := @DL.gInt.eq_1
@[local simp] theorem u_DL_gInt_2 : type_of% @DL.gInt.eq_2 := @DL.gInt.eq_2
@[local simp] theorem u_DL_gInt0_1 : type_of% @DL.gInt0.eq_1 := @DL.gInt0.eq_1
@[local simp] theorem u_DL_gInt0_2 : type_of% @DL.gInt0.eq_2 := @DL.gInt0.eq_2
@[local simp] theorem u_DL_gSub_1 : type_of% @DL.gSub.eq_1 := @DL.gSub.eq_1
@[local simp] theorem u_DL_gMul_1 : type_of% @DL.gMul.eq_1 := @DL.gMul.eq_1
@[local simp] theorem u_DL_gDivW_1 : type_of% @DL.gDivW.eq_1 := @DL.gDivW.eq_1
@[local simp] theorem u_DL_M_cons_1 : type_of% @DL.M.cons.eq_1 := @DL.M.cons.eq_1
@[local simp] theorem u_DL_M_disp_1 : type_of% @DL.M.disp.eq_1 := @DL.M.disp.eq_1
@[local simp] theorem u_DL_M_grd_1 : type_of% @DL.M.grd.eq_1 := @DL.M.grd.eq_1
@[local simp] theorem u_DL_M_no_1 : type_of% @DL.M.no.eq_1 := @DL.M.no.eq_1
@[local simp] theorem u_DL_M_res_1 : type_of% @DL.M.res.eq_1 := @DL.M.res.eq_1
@[local simp] theorem u_DL_M_res_2 : type_of% @DL.M.res.eq_2 := @DL.M.res.eq_2
@[local simp] theorem u_DL_M_res_3 : type_of% @DL.M.res.eq_3 := @DL.M.res.eq_3
@[local simp] theorem u_DL_M_call_1 : type_of% @DL.M.call.eq_1 := @DL.M.call.eq_1
@[local simp] theorem u_DL_g1_1 : type_of% @DL.g1.eq_1 := @DL.g1.eq_1
@[local simp] theorem u_DL_g1_2 : type_of% @DL.g1.eq_2 := @DL.g1.eq_2
@[local simp] theorem u_DL_g2_1 : type_of% @DL.g2.eq_1 := @DL.g2.eq_1
@[local simp] theorem u_DL_g2_2 : type_of% @DL.g2.eq_2 := @DL.g2.eq_2
@[local simp] theorem u_DL_M_of_1 : type_of% @DL.M.of.eq_1 := @DL.M.of.eq_1
@[local simp] theorem u_DL_M_of_2 : type_of% @DL.M.of.eq_2 := @DL.M.of.eq_2
@[local simp] theorem u_L2_atI_1 : type_of% @L2.atI.eq_1 := @L2.atI.eq_1
@[local simp] theorem u_L2_ixN_1 : type_of% @L2.ixN.eq_1 := @L2.ixN.eq_1
@[local simp] theorem u_DL_intD_1 : type_of% @DL.intD.eq_1 := @DL.intD.eq_1
@[local simp] theorem u_DL_intD_2 : type_of% @DL.intD.eq_2 := @DL.intD.eq_2
@[local simp] theorem u_DL_intD_3 : type_of% @DL.intD.eq_3 := @DL.intD.eq_3
@[local simp] theorem u_DL_intD_4 : type_of% @DL.intD.eq_4 := @DL.intD.eq_4
@[local simp] theorem u_DL_M_and_1 : type_of% @DL.M.and.eq_1 := @DL.M.and.eq_1
@[local simp] theorem u_DL_M_or_1 : type_of% @DL.M.or.eq_1 := @DL.M.or.eq_1
@[local simp] theorem u_DL_M_andV_1 : type_of% @DL.M.andV.eq_1 := @DL.M.andV.eq_1
@[local simp] theorem u_DL_M_orV_1 : type_of% @DL.M.orV.eq_1 := @DL.M.orV.eq_1
@[local simp] theorem u_DL_M_notV_1 : type_of% @DL.M.notV.eq_1 := @DL.M.notV.eq_1
@[local simp] theorem u_DL_M_fld_1 : type_of% @DL.M.fld.eq_1 := @DL.M.fld.eq_1
@[local simp] theorem u_DL_M_alt_1 : type_of% @DL.M.alt.eq_1 := @DL.M.alt.eq_1
@[local simp] theorem u_DL_gIxA_1 : type_of% @DL.gIxA.eq_1 := @DL.gIxA.eq_1
@[local simp] theorem u_DL_gIx_1 : type_of% @DL.gIx.eq_1 := @DL.gIx.eq_1
@[local simp] theorem u_DL_gIx_2 : type_of% @DL.gIx.eq_2 := @DL.gIx.eq_2
@[local simp] theorem u_DL_gIx_3 : type_of% @DL.gIx.eq_3 := @DL.gIx.eq_3
@[local simp] theorem u_DL_gIx_4 : type_of% @DL.gIx.eq_4 := @DL.gIx.eq_4
@[local simp] theorem u_DL_gIx_5 : type_of% @DL.gIx.eq_5 := @DL.gIx.eq_5
@[local simp] theorem u_DL_gDx_1 : type_of% @DL.gDx.eq_1 := @DL.gDx.eq_1
@[local simp] theorem u_DL_gDx_2 : type_of% @DL.gDx.eq_2 := @DL.gDx.eq_2
@[local simp] theorem u_DL_D_key_1 : type_of% @DL.D.key.eq_1 := @DL.D.key.eq_1
@[local simp] theorem u_DL_D_key_2 : type_of% @DL.D.key.eq_2 := @DL.D.key.eq_2
@[local simp] theorem u_DL_D_key_3 : type_of% @DL.D.key.eq_3 := @DL.D.key.eq_3
@[local simp] theorem u_DL_M_callO_1 : type_of% @DL.M.callO.eq_1 := @DL.M.callO.eq_1
@[local simp] theorem u_DL_resN_1 : type_of% @DL.resN.eq_1 := @DL.resN.eq_1
@[local simp] theorem u_DL_resN_2 : type_of% @DL.resN.eq_2 := @DL.resN.eq_2
@[local simp] theorem u_DL_M_seqN_1 : type_of% @DL.M.seqN.eq_1 := @DL.M.seqN.eq_1
@[local simp] theorem u_DL_M_retN_1 : type_of% @DL.M.retN.eq_1 := @DL.M.retN.eq_1
@[local simp] theorem u_DL_M_loop_1 : type_of% @DL.M.loop.eq_1 := @DL.M.loop.eq_1
@[local simp] theorem u_DL_M_loop_2 : type_of% @DL.M.loop.eq_2 := @DL.M.loop.eq_2
@[local simp] theorem u_DL_itemsK_1 : type_of% @DL.itemsK.eq_1 := @DL.itemsK.eq_1
@[local simp] theorem u_DL_itemsA_1 : type_of% @DL.itemsA.eq_1 := @DL.itemsA.eq_1
@[local simp] theorem u_DL_itemsL_1 : type_of% @DL.itemsL.eq_1 := @DL.itemsL.eq_1
@[local simp] theorem u_DL_itemsL_2 : type_of% @DL.itemsL.eq_2 := @DL.itemsL.eq_2
@[local simp] theorem u_DL_itemsL_3 : type_of% @DL.itemsL.eq_3 := @DL.itemsL.eq_3
@[local simp] theorem u_DL_itemsT_1 : type_of% @DL.itemsT.eq_1 := @DL.itemsT.eq_1
@[local simp] theorem u_DL_itemsT_2 : type_of% @DL.itemsT.eq_2 := @DL.itemsT.eq_2
@[local simp] theorem u_DL_itemsS_1 : type_of% @DL.itemsS.eq_1 := @DL.itemsS.eq_1
@[local simp] theorem u_DL_itemsS_2 : type_of% @DL.itemsS.eq_2 := @DL.itemsS.eq_2
@[local simp] theorem u_DL_itemsKd_1 : type_of% @DL.itemsKd.eq_1 := @DL.itemsKd.eq_1
@[local simp] theorem u_DL_itemsKd_2 : type_of% @DL.itemsKd.eq_2 := @DL.itemsKd.eq_2
@[local simp] theorem u_DL_Tg_tup_1 : type_of% @DL.Tg.tup.eq_1 := @DL.Tg.tup.eq_1
@[local simp] theorem u_DL_Tg_tup_2 : type_of% @DL.Tg.tup.eq_2 := @DL.Tg.tup.eq_2
@[local simp] theorem u_DL_Tgs_cons_1 : type_of% @DL.Tgs.cons.eq_1 := @DL.Tgs.cons.eq_1
@[local simp] theorem u_DL_Tgs_cons_2 : type_of% @DL.Tgs.cons.eq_2 := @DL.Tgs.cons.eq_2
@[local simp] theorem u_DL_Tgs_nil_1 : type_of% @DL.Tgs.nil.eq_1 := @DL.Tgs.nil.eq_1
@[local simp] theorem u_DL_Tgs_nil_2 : type_of% @DL.Tgs.nil.eq_2 := @DL.Tgs.nil.eq_2
@[local simp] theorem u_DL_gEqA_1 : type_of% @DL.gEqA.eq_1 := @DL.gEqA.eq_1
@[local simp] theorem u_DL_gSS_1 : type_of% @DL.gSS.eq_1 := @DL.gSS.eq_1
@[local simp] theorem u_DL_gSS_2 : type_of% @DL.gSS.eq_2 := @DL.gSS.eq_2
@[local simp] theorem u_DL_gNeA_1 : type_of% @DL.gNeA.eq_1 := @DL.gNeA.eq_1
@[local simp] theorem u_DL_gEq_1 : type_of% @DL.gEq.eq_1 := @DL.gEq.eq_1
@[local simp] theorem u_DL_gNe_1 : type_of% @DL.gNe.eq_1 := @DL.gNe.eq_1
@[local simp] theorem u_DL_M_neg_1 : type_of% @DL.M.neg.eq_1 := @DL.M.neg.eq_1
@[local simp] theorem u_DL_minA_1 : type_of% @DL.minA.eq_1 := @DL.minA.eq_1
@[local simp] theorem u_DL_minA_2 : type_of% @DL.minA.eq_2 := @DL.minA.eq_2
@[local simp] theorem u_DL_minA_3 : type_of% @DL.minA.eq_3 := @DL.minA.eq_3
@[local simp] theorem u_DL_maxA_1 : type_of% @DL.maxA.eq_1 := @DL.maxA.eq_1
@[local simp] theorem u_DL_maxA_2 : type_of% @DL.maxA.eq_2 := @DL.maxA.eq_2
@[local simp] theorem u_DL_maxA_3 : type_of% @DL.maxA.eq_3 := @DL.maxA.eq_3
@[local simp] theorem u_DL_gKx_1 : type_of% @DL.gKx.eq_1 := @DL.gKx.eq_1
@[local simp] theorem u_DL_okOf_1 : type_of% @DL.okOf.eq_1 := @DL.okOf.eq_1
@[local simp] theorem u_DL_okOf_2 : type_of% @DL.okOf.eq_2 := @DL.okOf.eq_2
/-! K05_M -/
abbrev Tab := List (Nat × Nat × Int)
/-- the number of a pair -/
def lk (A : Tab) (i j : Nat) : Int := match A.find? (fun t => t.1 == i && t.2.1 == j) with
  | some t => t.2.2
  | none => 2
def ltr (i : Nat) : Str := ⟨#[97 + i]⟩
def lts (n : Nat) : Str := ⟨((List.range n).map (97 + ·)).toArray⟩
def ang (t : Nat × Nat × Int) : D := .tup [.str (ltr t.1), .str (ltr t.2.1), .int t.2.2]
def angD (A : Tab) : D := .tup (A.map ang)
def mir (n : Nat) (A : Tab) (t : Str) : D := .ob "Mirrors" [("_letters", .str (lts n)), ("_angles", angD A), ("_text", .str t)]
theorem at_letters (a b c : D) : List.lookup (Str.ofString "_letters") [(Str.ofString "_letters", a), (Str.ofString "_angles", b), (Str.ofString "_text", c)] = some a := by kernel_rfl
theorem at_angles (a b c : D) : List.lookup (Str.ofString "_angles") [(Str.ofString "_letters", a), (Str.ofString "_angles", b), (Str.ofString "_text", c)] = some b := by kernel_rfl
theorem letters_eq (n : Nat) (A : Tab) (t : Str) : F_Mirrors_letters [mir n A t] = .ok (.str (lts n)) := by
  unfold F_Mirrors_letters b_Mirrors_letters mir
  simp [at_letters]
theorem angles_eq (n : Nat) (A : Tab) (t : Str) : F_Mirrors_angles [mir n A t] = .ok (angD A) := by
  unfold F_Mirrors_angles b_Mirrors_angles mir
  simp [at_angles]
theorem prop_mir {fn : List D → Res D} {fa : M D} {ρ ρ1 : Sls} {n : Nat} {A : Tab} {t : Str} {d : D} (h : fa ρ = .ok (mir n A t) ρ1) (h2 : fn [mir n A t] = .ok d) : M.prop "Mirrors" fn fa ρ = .ok d ρ1 := by
  unfold M.prop M.bind
  rw [h]
  unfold mir at h2 ⊢
  dsimp only
  rw [if_pos rfl, h2]
  rfl
theorem str_beq (a b : Str) : decide (a = b) = (a == b) := by
  by_cases h : a = b
  · rw [decide_eq_true h]; exact (beq_iff_eq.mpr h).symm
  · rw [decide_eq_false h]; exact (beq_eq_false_iff_ne.mpr h).symm
theorem ltr_inj {i j : Nat} (h : ltr i = ltr j) : i = j := by
  unfold ltr at h
  have h2 : (#[97 + i] : Array Nat) = #[97 + j] := congrArg Str.cps h
  have h3 := congrArg Array.toList h2
  have h4 : 97 + i = 97 + j := by simpa using h3
  omega
theorem ltr_beq (i j : Nat) : (ltr i == ltr j) = (i == j) := by
  by_cases h : i = j
  · subst h; rw [beq_self_eq_true, beq_self_eq_true]
  · rw [beq_eq_false_iff_ne.mpr h, beq_eq_false_iff_ne.mpr fun z => h (ltr_inj z)]
def angT (i j : Nat) : D → Bool
  | .tup [.str x, .str y, .int v] => x == ltr i && y == ltr j
  | _ => false
def angV : D → D
  | .tup [_, _, v] => v
  | _ => .non
theorem find_ang (A : Tab) (i j : Nat) : (A.map ang).find? (angT i j) = (A.find? fun t => t.1 == i && t.2.1 == j).map ang := by
  rw [List.find?_map]
  have e : (angT i j ∘ ang) = fun t => t.1 == i && t.2.1 == j := by
    funext a
    show (ltr a.1 == ltr i && ltr a.2.1 == ltr j) = _
    rw [ltr_beq, ltr_beq]
  rw [e]
theorem nb_eq (n : Nat) (A : Tab) (t : Str) (i j : Nat) : F_number_between [mir n A t, .str (ltr i), .str (ltr j)] = .ok (.int (lk A i j)) := by
  unfold F_number_between b_number_between
  dsimp only
  refine seq_find (angT i j) angV (fun ρ => ∃ a b c, ρ = [.im (mir n A t), .im (.str (ltr i)), .im (.str (ltr j)), a, b, c]) _ (ds := A.map ang) (ρ := [.im (mir n A t), .im (.str (ltr i)), .im (.str (ltr j)), .un, .un, .un]) ?_ ⟨_, _, _, rfl⟩ ?_ ?_ ?_
  · exact (bind_okD (prop_mir rfl (angles_eq n A t))).trans rfl
  · rintro d hd ρ ⟨a, b, c, rfl⟩
    obtain ⟨⟨x, y, v⟩, _, rfl⟩ := List.mem_map.mp hd
    refine ⟨[.im (mir n A t), .im (.str (ltr i)), .im (.str (ltr j)), .im (.str (ltr x)), .im (.str (ltr y)), .im (.int v)], by simp [ang], ?_, ?_⟩
    · intro ht
      have ht : (ltr x == ltr i && ltr y == ltr j) = true := ht
      rw [Bool.and_eq_true, beq_iff_eq, beq_iff_eq] at ht
      refine ⟨[.im (mir n A t), .im (.str (ltr i)), .im (.str (ltr j)), .im (.str (ltr x)), .im (.str (ltr y)), .im (.int v)], ?_⟩
      simp [ang, ht, angV]
    · intro ht
      have ht : (ltr x == ltr i && ltr y == ltr j) = false := ht
      refine ⟨[.im (mir n A t), .im (.str (ltr i)), .im (.str (ltr j)), .im (.str (ltr x)), .im (.str (ltr y)), .im (.int v)], ?_, _, _, _, rfl⟩
      by_cases h1 : ltr x = ltr i
      · have h2 : ¬ ltr y = ltr j := fun z => by rw [h1, z, beq_self_eq_true, beq_self_eq_true] at ht; cases ht
        simp [h1, h2]
      · simp [h1]
  · intro d hd
    rw [find_ang] at hd
    obtain ⟨a, ha, rfl⟩ := Option.map_eq_some_iff.mp hd
    show D.int a.2.2 = _
    unfold lk
    rw [ha]
  · intro hd ρ' ⟨a, b, c, e⟩
    subst e
    rw [find_ang] at hd
    have ha := Option.map_eq_none_iff.mp hd
    unfold lk
    rw [ha]
    rfl

/-! K05_M2 -/
def wgt (v : Int) (lesser : Bool) : Int := if v = 3 then 1 else if v = 0 then 2 else if v = 4 then (if lesser then 1 else 2) else if v = 6 then (if lesser then 1 else 3) else 0
def cf (A : Tab) (i j : Nat) : Int := if i = j then -2 else wgt (lk A (min i j) (max i j)) (decide (i < j))
def okV (v : Int) : Prop := v = 2 ∨ v = 3 ∨ v = 4 ∨ v = 6 ∨ v = 0
theorem ltr_lt (i j : Nat) : ((ltr i).cps.toList < (ltr j).cps.toList) ↔ i < j := by
  show ([97 + i] < [97 + j]) ↔ _
  rw [List.cons_lt_cons_iff]
  constructor
  · rintro (h | ⟨_, h⟩)
    · omega
    · exact absurd h (by simp)
  · intro h; exact .inl (by omega)
theorem ltr_ltA (i j : Nat) : ((ltr i).cps < (ltr j).cps) ↔ i < j := ltr_lt i j
theorem lesser_eq (v : Int) (h : okV v) : valD KD_SHARES_OF_LESSER (.inl v) = some (.int (wgt v true)) := by
  rcases h with rfl | rfl | rfl | rfl | rfl <;> kernel_rfl
theorem greater_eq (v : Int) (h : okV v) : valD KD_SHARES_OF_GREATER (.inl v) = some (.int (wgt v false)) := by
  rcases h with rfl | rfl | rfl | rfl | rfl <;> kernel_rfl
theorem share_eq (n : Nat) (A : Tab) (t : Str) (i j : Nat) (h : okV (lk A (min i j) (max i j))) : F_share_between [mir n A t, .str (ltr i), .str (ltr j)] = .ok (.int (cf A i j)) := by
  unfold F_share_between b_share_between
  dsimp only
  by_cases hij : i = j
  · subst hij
    simp [cf]
  · have hn : ¬ ltr i = ltr j := fun z => hij (ltr_inj z)
    by_cases hl : i < j
    · have hl2 : ¬ j < i := by omega
      have e1 : min i j = i := by omega
      have e2 : max i j = j := by omega
      rw [e1, e2] at h
      simp [hn, ltr_ltA, hl, hl2, nb_eq, lesser_eq _ h, cf, hij, e1, e2]
    · have hl2 : j < i := by omega
      have e1 : min i j = j := by omega
      have e2 : max i j = i := by omega
      rw [e1, e2] at h
      simp [hn, ltr_ltA, hl, hl2, nb_eq, greater_eq _ h, cf, hij, e1, e2]

/-! K05_M3 -/
theorem signs_lts (n : Nat) : DL.signs (lts n) = (List.range n).map fun i => D.str (ltr i) := by
  unfold DL.signs lts ltr
  rw [List.map_map]; rfl
def rowD (r : List Int) : D := .tup (r.map D.int)
def shR (n : Nat) (A : Tab) (i : Nat) : List Int := (List.range n).map fun j => cf A i j
def shD (n : Nat) (A : Tab) : D := .dct ((List.range n).map fun i => ((.inr (ltr i) : Key), rowD (shR n A i)))
/-- all that is looked up is a number of angles -/
def okA (A : Tab) : Prop := ∀ i j, okV (lk A i j)
theorem range_len (n : Nat) (h : n ≤ 6) : (List.range n).length ≤ 16777216 := by
  rw [List.length_range]; omega
theorem keys_nodup (n : Nat) : ((List.range n).map fun i => (.inr (ltr i) : Key)).Nodup := by
  refine List.Pairwise.map _ (fun a b (h : a ≠ b) z => h (ltr_inj ?_)) List.nodup_range
  exact Sum.inr.inj z
theorem shares_eq (n : Nat) (A : Tab) (t : Str) (hn : n ≤ 6) (hA : okA A) : F_shares_of [mir n A t] = .ok (shD n A) := by
  unfold F_shares_of b_shares_of
  dsimp only
  refine (congrArg resD (bind_okD (a := shD n A) (ρ1 := [.im (mir n A t), .un, .un]) ((bind_okD (a := (List.range n).map fun i => D.str (ltr i)) (ρ1 := [.im (mir n A t), .un, .un]) ?_).trans ?_))).trans rfl
  · refine (bind_okD (prop_mir rfl (letters_eq n A t))).trans ?_
    simp [signs_lts]
  · refine dc_mapI _ (fun i => .inr (ltr i)) (fun i => rowD (shR n A i)) _ (range_len n hn) (keys_nodup n) fun i hi => ?_
    refine ⟨[.im (mir n A t), .im (.str (ltr i)), .un], _, _, _, [.im (mir n A t), .im (.str (ltr i)), .un], rfl, rfl, rfl, rfl, ?_, rfl⟩
    refine (bind_okD (a := [D.lst ((shR n A i).map D.int)]) (ρ1 := [.im (mir n A t), .im (.str (ltr i)), .un]) ?_).trans rfl
    refine (bind_okD (a := D.lst ((shR n A i).map D.int)) (ρ1 := [.im (mir n A t), .im (.str (ltr i)), .un]) ?_).trans rfl
    refine (bind_okD (a := (List.range n).map fun i => D.str (ltr i)) (ρ1 := [.im (mir n A t), .im (.str (ltr i)), .un]) ?_).trans ?_
    · refine (bind_okD (prop_mir rfl (letters_eq n A t))).trans ?_
      simp [signs_lts]
    · refine (comp_mapI _ (fun j => D.int (cf A i j)) _ (range_len n hn) fun j hj => ?_).trans ?_
      · refine ⟨[.im (mir n A t), .im (.str (ltr i)), .im (.str (ltr j))], _, [.im (mir n A t), .im (.str (ltr i)), .im (.str (ltr j))], rfl, rfl, ?_, rfl⟩
        simp [share_eq n A t i j (hA _ _)]
      · unfold shR
        rw [List.map_map]; rfl

/-! K05_M4 -/
theorem alpha_index (i : Nat) (h : i < 6) (ρ : Sls) : gIndex (.str "abcdef") [.str (ltr i)] ρ = .ok (.int i) ρ := by
  match i, h with
  | 0, _ => kernel_rfl
  | 1, _ => kernel_rfl
  | 2, _ => kernel_rfl
  | 3, _ => kernel_rfl
  | 4, _ => kernel_rfl
  | 5, _ => kernel_rfl
def dot (a b : List Int) : Int := (List.zipWith (· * ·) a b).sum
def sendL (n : Nat) (A : Tab) (i : Nat) (r : List Int) : List Int := r.take i ++ [r.getD i 0 + dot (shR n A i) r] ++ r.drop (i + 1)
theorem valD_map {ι : Type} (kf : ι → Key) (vf : ι → D) (l : List ι) (hn : (l.map kf).Nodup) (i : ι) (hi : i ∈ l) : valD (l.map fun i => (kf i, vf i)) (kf i) = some (vf i) := by
  induction l with
  | nil => cases hi
  | cons a l ih =>
    rw [List.map_cons] at hn
    rw [List.map_cons]
    by_cases h : kf a = kf i
    · have ha : a = i ∨ a ≠ i := Classical.em _
      rcases List.mem_cons.mp hi with e | e
      · subst e
        unfold valD; simp
      · exact absurd (by rw [h]; exact List.mem_map_of_mem e) (List.nodup_cons.mp hn).1
    · have hi2 : i ∈ l := by
        rcases List.mem_cons.mp hi with e | e
        · exact absurd (by rw [e]) h
        · exact e
      have e2 := ih (List.nodup_cons.mp hn).2 hi2
      have e3 : valD ((kf a, vf a) :: l.map fun i => (kf i, vf i)) (kf i) = valD (l.map fun i => (kf i, vf i)) (kf i) := by
        unfold valD
        rw [List.find?_cons_of_neg (by simpa using h)]
      exact e3.trans e2
theorem cut_take (ds : List D) (i : Nat) (h : i ≤ ds.length) : DL.cutD ds none (some (i : Int)) = ds.take i := by
  unfold DL.cutD
  rw [HT.sIx_nat, HT.sIx_none, Nat.min_eq_left h]; rfl
theorem cut_drop (ds : List D) (i : Nat) (h : i ≤ ds.length) : DL.cutD ds (some (i : Int)) none = ds.drop i := by
  unfold DL.cutD
  rw [HT.sIx_nat, HT.sIx_none, Nat.min_eq_left h]
  exact List.take_of_length_le (by rw [List.length_drop]; omega)
theorem zip_ints : ∀ (a b : List Int), zipD2 (a.map D.int) (b.map D.int) = (List.zip a b).map fun p => D.tup [.int p.1, .int p.2]
  | [], _ => rfl
  | _ :: _, [] => rfl
  | x :: a, y :: b => by
    show D.tup [.int x, .int y] :: zipD2 (a.map D.int) (b.map D.int) = _
    rw [zip_ints a b]; rfl
theorem cf_small (A : Tab) (i j : Nat) : -3 < cf A i j ∧ cf A i j < 4 := by
  unfold cf wgt
  split
  · omega
  · split
    · omega
    · split
      · omega
      · split
        · split <;> omega
        · split
          · split <;> omega
          · omega
theorem zip_sum : ∀ (a b : List Int), ((List.zip a b).map fun p => p.1 * p.2).sum = dot a b
  | [], _ => by simp [dot]
  | _ :: _, [] => by simp [dot]
  | x :: a, y :: b => by
    have := zip_sum a b
    simp only [dot, List.zip_cons_cons, List.map_cons, List.sum_cons, List.zipWith_cons_cons] at this ⊢
    rw [this]
theorem two_okD {fa fb : M D} {g : D → D → M D} {a b : D} {ρ ρ1 ρ2 : Sls} (h1 : fa ρ = .ok a ρ1) (h2 : fb ρ1 = .ok b ρ2) : M.two fa fb g ρ = g a b ρ2 := by
  unfold M.two M.bind
  rw [h1]; dsimp only; rw [h2]
theorem sl_take (r : List Int) (i : Nat) (h : i ≤ r.length) (ρ : Sls) : gSl (rowD r) none (some (i : Int)) ρ = .ok (rowD (r.take i)) ρ := by
  show Ret.ok (D.tup (DL.cutD (r.map D.int) none (some (i : Int)))) ρ = _
  rw [cut_take _ _ (by rw [List.length_map]; exact h), ← List.map_take]; rfl
theorem sl_drop (r : List Int) (i : Nat) (h : i ≤ r.length) (ρ : Sls) : gSl (rowD r) (some (i : Int)) none ρ = .ok (rowD (r.drop i)) ρ := by
  show Ret.ok (D.tup (DL.cutD (r.map D.int) (some (i : Int)) none)) ρ = _
  rw [cut_drop _ _ (by rw [List.length_map]; exact h), ← List.map_drop]; rfl
theorem ix_row (r : List Int) (i : Nat) (h : i < r.length) (ρ : Sls) : gIxA (rowD r) (.int (i : Int)) ρ = .ok (.int (r.getD i 0)) ρ := by
  have e : L2.atI (r.map D.int) (i : Int) = some (.int (r.getD i 0)) := by
    have h1 : L2.ixN (r.map D.int).length (i : Int) = some i := by
      unfold L2.ixN
      rw [List.length_map, if_pos (by omega), if_pos (by omega), Int.toNat_natCast]
    unfold L2.atI
    rw [h1]
    show (r.map D.int)[i]? = _
    rw [List.getElem?_map, List.getElem?_eq_getElem h, List.getD_eq_getElem?_getD, List.getElem?_eq_getElem h]; rfl
  have e2 : gIx (rowD r) (.int (i : Int)) ρ = .ok (.int (r.getD i 0)) ρ := by
    unfold rowD gIx
    dsimp only
    rw [e]; rfl
  unfold gIxA M.alt
  rw [e2]
theorem add_row (a b : List Int) (h : a.length + b.length ≤ 16777216) (ρ : Sls) : gAdd (rowD a) (rowD b) ρ = .ok (rowD (a ++ b)) ρ := by
  unfold rowD
  simp [h]
theorem dot_eq (n : Nat) (A : Tab) (i : Nat) (hi : i < n) (r : List Int) (ρ : Sls) : gIxA (shD n A) (.str (ltr i)) ρ = .ok (rowD (shR n A i)) ρ := by
  have e := valD_map (fun i => (.inr (ltr i) : Key)) (fun i => rowD (shR n A i)) (List.range n) (keys_nodup n) i (List.mem_range.mpr hi)
  unfold shD
  simp [e]
theorem letter_eq (n : Nat) (A : Tab) (i : Nat) (r : List Int) (hn : n ≤ 6) (hi : i < n) (hr : r.length = n) : F_send_by_letter [shD n A, .str (ltr i), rowD r] = .ok (rowD (sendL n A i r)) := by
  unfold F_send_by_letter b_send_by_letter
  dsimp only
  refine (congrArg resD (seq_nxD (ρ1 := [.im (shD n A), .im (.str (ltr i)), .im (rowD r), .im (.int i), .un, .un, .un]) ?_)).trans ?_
  · refine (bind_okD (a := D.int i) (ρ1 := [.im (shD n A), .im (.str (ltr i)), .im (rowD r), .un, .un, .un, .un]) ?_).trans rfl
    unfold M.meth
    exact alpha_index i (by omega) _
  · refine (congrArg resD (seq_nxD (ρ1 := [.im (shD n A), .im (.str (ltr i)), .im (rowD r), .im (.int i), .im (.int (dot (shR n A i) r)), .un, .un]) ?_)).trans ?_
    · refine (bind_okD (a := D.int (dot (shR n A i) r)) (ρ1 := [.im (shD n A), .im (.str (ltr i)), .im (rowD r), .im (.int i), .un, .un, .un]) ?_).trans rfl
      refine (bind_okD (a := [D.lst (((List.zip (shR n A i) r).map fun p => p.1 * p.2).map D.int)]) (ρ1 := [.im (shD n A), .im (.str (ltr i)), .im (rowD r), .im (.int i), .un, .un, .un]) ?_).trans ?_
      · refine (bind_okD (a := D.lst (((List.zip (shR n A i) r).map fun p => p.1 * p.2).map D.int)) (ρ1 := [.im (shD n A), .im (.str (ltr i)), .im (rowD r), .im (.int i), .un, .un, .un]) ?_).trans rfl
        refine (bind_okD (a := (List.zip (shR n A i) r).map fun p => D.tup [.int p.1, .int p.2]) (ρ1 := [.im (shD n A), .im (.str (ltr i)), .im (rowD r), .im (.int i), .un, .un, .un]) ?_).trans ?_
        · refine (bind_okD (a := [rowD (shR n A i), rowD r]) (ρ1 := [.im (shD n A), .im (.str (ltr i)), .im (rowD r), .im (.int i), .un, .un, .un]) ?_).trans ?_
          · refine (bind_okD (a := rowD (shR n A i)) (ρ1 := [.im (shD n A), .im (.str (ltr i)), .im (rowD r), .im (.int i), .un, .un, .un]) ?_).trans rfl
            refine (two_okD (a := shD n A) (b := D.str (ltr i)) (ρ1 := [.im (shD n A), .im (.str (ltr i)), .im (rowD r), .im (.int i), .un, .un, .un]) (ρ2 := [.im (shD n A), .im (.str (ltr i)), .im (rowD r), .im (.int i), .un, .un, .un]) rfl rfl).trans ?_
            exact dot_eq n A i hi r _
          · show M.ret (zipD2 ((shR n A i).map D.int) (r.map D.int)) _ = _
            rw [zip_ints]; rfl
        · refine (comp_mapI _ (fun p => D.int (p.1 * p.2)) _ ?_ fun p hp => ?_).trans ?_
          · rw [List.length_zip, hr]; omega
          · refine ⟨[.im (shD n A), .im (.str (ltr i)), .im (rowD r), .im (.int i), .un, .im (.int p.1), .im (.int p.2)], _, [.im (shD n A), .im (.str (ltr i)), .im (rowD r), .im (.int i), .un, .im (.int p.1), .im (.int p.2)], rfl, rfl, ?_, rfl⟩
            have h1 := (List.of_mem_zip (a := p.1) (b := p.2) hp).1
            obtain ⟨j, hj, e⟩ := List.mem_map.mp h1
            have h2 := cf_small A i j
            rw [e] at h2
            have h3 : -18446744073709551616 < p.1 := by omega
            have h4 : p.1 < 18446744073709551616 := by omega
            simp [h3, h4]
          · rw [List.map_map]; rfl
      · show M.of _ _ = _
        rw [intsD_map]
        show Ret.ok (D.int _) _ = _
        rw [zip_sum]
    · have P : ∃ ρ : Sls, ρ = [.im (shD n A), .im (.str (ltr i)), .im (rowD r), .im (.int i), .im (.int (dot (shR n A i) r)), .un, .un] := ⟨_, rfl⟩
      obtain ⟨ρ, hρ⟩ := P
      rw [← hρ]
      have v2 : M.var 2 ρ = .ok (rowD r) ρ := by rw [hρ]; rfl
      have v3 : M.var 3 ρ = .ok (.int i) ρ := by rw [hρ]; rfl
      have v4 : M.var 4 ρ = .ok (.int (dot (shR n A i) r)) ρ := by rw [hρ]; rfl
      have s1 : (M.var 2).sl (M.ret none) (M.var 3).asI ρ = .ok (rowD (r.take i)) ρ := by
        refine (bind_okD v2).trans ((bind_okD (a := none) rfl).trans ((bind_okD (a := some (i : Int)) ((bind_okD v3).trans rfl)).trans (sl_take r i (by omega) ρ)))
      have s2 : (M.var 2).sl ((M.var 3).two (M.ret (D.int 1)) gAdd).asI (M.ret none) ρ = .ok (rowD (r.drop (i + 1))) ρ := by
        refine (bind_okD v2).trans ((bind_okD (a := some ((i + 1 : Nat) : Int)) ((bind_okD ((two_okD v3 (b := D.int 1) rfl).trans (show gAdd (.int i) (.int 1) ρ = .ok (.int ((i : Int) + 1)) ρ from rfl))).trans rfl)).trans ((bind_okD (a := none) rfl).trans (sl_drop r (i + 1) (by omega) ρ)))
      have s3 : ((((M.var 2).two (M.var 3) gIxA).two (M.var 4) gAdd).cons (M.ret [])).disp D.tup ρ = .ok (rowD [r.getD i 0 + dot (shR n A i) r]) ρ := by
        refine (bind_okD (a := [D.int (r.getD i 0 + dot (shR n A i) r)]) (ρ1 := ρ) ?_).trans rfl
        refine (bind_okD (a := D.int (r.getD i 0 + dot (shR n A i) r)) (ρ1 := ρ) ?_).trans rfl
        exact (two_okD ((two_okD v2 v3).trans (ix_row r i (by omega) ρ)) v4).trans rfl
      have s4 := (two_okD (g := gAdd) s1 s3).trans (add_row (r.take i) [r.getD i 0 + dot (shR n A i) r] (by rw [List.length_take, List.length_singleton]; omega) ρ)
      have s5 := (two_okD (g := gAdd) s4 s2).trans (add_row (r.take i ++ [r.getD i 0 + dot (shR n A i) r]) (r.drop (i + 1)) (by rw [List.length_append, List.length_take, List.length_singleton, List.length_drop]; omega) ρ)
      rw [bind_okD s5]
      rfl

/-! K05_M5 -/
/-- sent by a word, its last letter first -/
def sendW (n : Nat) (A : Tab) (w : List Nat) (r : List Int) : List Int := w.reverse.foldl (fun r i => sendL n A i r) r
def wrd (w : List Nat) : Str := ⟨(w.map (97 + ·)).toArray⟩
theorem sendL_len (n : Nat) (A : Tab) (i : Nat) (r : List Int) (hi : i < r.length) : (sendL n A i r).length = r.length := by
  unfold sendL
  rw [List.length_append, List.length_append, List.length_take, List.length_singleton, List.length_drop]
  omega
theorem signs_wrd (w : List Nat) : DL.signs (wrd w) = w.map fun i => D.str (ltr i) := by
  unfold DL.signs wrd ltr
  rw [List.map_map]; rfl
theorem wrd_len (w : List Nat) : (wrd w).length = w.length := by
  unfold wrd Str.length
  simp
theorem word_eq (n : Nat) (A : Tab) (w : List Nat) (r : List Int) (hn : n ≤ 6) (hw : ∀ i ∈ w, i < n) (hr : r.length = n) (hl : w.length ≤ 1000) : F_send_by_word [shD n A, .str (wrd w), rowD r] = .ok (rowD (sendW n A w r)) := by
  unfold F_send_by_word b_send_by_word
  dsimp only
  have hm : ∀ i ∈ w.reverse, i < n := fun i hi => hw i (List.mem_reverse.mp hi)
  refine seq_foldI (fin := resD) (fun i => D.str (ltr i)) (fun (r : List Int) ρ => r.length = n ∧ ∃ s, ρ = [.im (shD n A), .im (.str (wrd w)), .im (rowD r), s]) (fun r i => sendL n A i r) w.reverse r (ρ := [.im (shD n A), .im (.str (wrd w)), .im (rowD r), .un]) ?_ ⟨hr, _, rfl⟩ (fun i hi r ρ ⟨hr, s, e⟩ => ?_) fun ρ' ⟨hr, s, e⟩ => ?_
  · have e : revSigns (.str (wrd w)) [.im (shD n A), .im (.str (wrd w)), .im (rowD r), .un] = .ok (w.reverse.map fun i => D.str (ltr i)) [.im (shD n A), .im (.str (wrd w)), .im (rowD r), .un] := by
      unfold revSigns
      dsimp only
      have hz : lineS (wrd w) = true := by
        unfold lineS
        rw [wrd_len]
        exact decide_eq_true (by omega)
      rw [if_pos hz, signs_wrd, List.map_reverse]; rfl
    exact (bind_okD (a := D.str (wrd w)) rfl).trans e
  · subst e
    have hi2 := hm i hi
    refine ⟨[.im (shD n A), .im (.str (wrd w)), .im (rowD r), .im (.str (ltr i))], [.im (shD n A), .im (.str (wrd w)), .im (rowD (sendL n A i r)), .im (.str (ltr i))], rfl, ?_, by rw [sendL_len n A i r (by omega)]; exact hr, _, rfl⟩
    simp [letter_eq n A i r hn hi2 hr]
  · subst e
    rfl
theorem sendW_len (n : Nat) (A : Tab) (w : List Nat) (r : List Int) (hw : ∀ i ∈ w, i < n) (hr : r.length = n) : (sendW n A w r).length = n := by
  unfold sendW
  have : ∀ (l : List Nat) (r : List Int), (∀ i ∈ l, i < n) → r.length = n → (l.foldl (fun r i => sendL n A i r) r).length = n := by
    intro l
    induction l with
    | nil => intro r _ h; exact h
    | cons a l ih =>
      intro r h1 h2
      exact ih _ (fun i hi => h1 i (List.mem_cons_of_mem _ hi)) (by rw [sendL_len n A a r (by rw [h2]; exact h1 a (List.mem_cons_self ..))]; exact h2)
  exact this _ r (fun i hi => hw i (List.mem_reverse.mp hi)) hr
theorem in_fin : ∀ n : Fin 7, ∀ i : Fin 6, i.val < n.val → strIn (ltr i.val) (lts n.val) = true := by decide +kernel
theorem in_letters (n i : Nat) (hi : i < n) (hn : n ≤ 6) (ρ : Sls) : gIn (.str (ltr i)) (.str (lts n)) ρ = .ok (.bl true) ρ := by
  have h := in_fin ⟨n, by omega⟩ ⟨i, by omega⟩ hi
  have h : strIn (ltr i) (lts n) = true := h
  show Ret.ok (D.bl (strIn (ltr i) (lts n))) ρ = _
  rw [h]
theorem isi_str (z : Str) (ρ : Sls) : isiD ins exc kt (.str z) (.ty "str") ρ = .ok (.bl true) ρ := by kernel_rfl
theorem isi_tup (ds : List D) (ρ : Sls) : isiD ins exc kt (.tup ds) (.ty "tuple") ρ = .ok (.bl true) ρ := by kernel_rfl
theorem isi_int (i : Int) (ρ : Sls) : isiD ins exc kt (.int i) (.ty "int") ρ = .ok (.bl true) ρ := by kernel_rfl
theorem isi_intb (i : Int) (ρ : Sls) : isiD ins exc kt (.int i) (.ty "bool") ρ = .ok (.bl false) ρ := by kernel_rfl
theorem isi_mir (fs : List (Str × D)) (ρ : Sls) : isiD ins exc kt (.ob "Mirrors" fs) (.cl "Mirrors") ρ = .ok (.bl true) ρ := by kernel_rfl
theorem is_integer_eq (i : Int) : F_is_integer [.int i] = .ok (.bl true) := by
  unfold F_is_integer b_is_integer
  simp [isi_int, isi_intb, truD]
theorem bools_true (n : Nat) : bools (List.replicate n (D.bl true)) = some (List.replicate n true) := by
  induction n with
  | zero => rfl
  | succ n ih => simp [List.replicate_succ, bools, ih]
theorem all_true {ι : Type} (l : List ι) (ρ : Sls) : allD (.lst (l.map fun _ => D.bl true)) ρ = .ok (.bl true) ρ := by
  have e : (l.map fun _ => D.bl true) = List.replicate l.length (D.bl true) := List.map_const' ..
  rw [e]
  unfold allD
  dsimp only
  rw [bools_true]
  have e2 : (List.replicate l.length true).all id = true := by simp
  show Ret.ok (D.bl ((List.replicate l.length true).all id)) ρ = _
  rw [e2]
theorem andV_okD {fa fb : M D} {ρ ρ1 : Sls} (h : fa ρ = .ok (.bl true) ρ1) : (fa.andV fb) ρ = fb ρ1 := by
  unfold M.andV M.bind; rw [h]
theorem is_word_eq (n : Nat) (w : List Nat) (hn : n ≤ 6) (hw : ∀ i ∈ w, i < n) (hl : w.length ≤ 60) : F_is_word [.str (lts n), .str (wrd w)] = .ok (.bl true) := by
  unfold F_is_word b_is_word
  dsimp only
  have P : ∃ ρ : Sls, ρ = [.im (.str (lts n)), .im (.str (wrd w)), .un] := ⟨_, rfl⟩
  obtain ⟨ρ, hρ⟩ := P
  have hs : slots 3 (List.map Sl.im [.str (lts n), .str (wrd w)]) = ρ := by rw [hρ]; rfl
  rw [hs]
  have v0 : M.var 0 ρ = .ok (.str (lts n)) ρ := by rw [hρ]; rfl
  have v1 : M.var 1 ρ = .ok (.str (wrd w)) ρ := by rw [hρ]; rfl
  have c : (M.comp (List.map (fun x => x.snd) [((Str.ofString "x"), 2)]) (Tg.name 2) (M.ret true) ((M.var 2).two (M.var 0) gIn)) (w.map fun i => D.str (ltr i)) ρ = .ok (.lst (w.map fun _ => D.bl true)) ρ := by
    refine comp_mapI _ (fun _ => D.bl true) _ (by omega) fun i hi => ?_
    refine ⟨[.im (.str (lts n)), .im (.str (wrd w)), .im (.str (ltr i))], _, [.im (.str (lts n)), .im (.str (wrd w)), .im (.str (ltr i))], by rw [hρ]; rfl, rfl, ?_, by rw [hρ]; rfl⟩
    exact (two_okD (a := .str (ltr i)) (b := .str (lts n)) rfl rfl).trans (in_letters n i (hw i hi) hn _)
  have it : ((M.var 1).bind itemsK) ρ = .ok (w.map fun i => D.str (ltr i)) ρ := by
    refine (bind_okD v1).trans ?_
    simp [signs_wrd]
  have a1 : (((M.var 1).cons ((M.ret (D.ty "str")).cons (M.ret []))).bind (g2 (isiD ins exc kt))) ρ = .ok (.bl true) ρ :=
    (bind_okD (a := [D.str (wrd w), D.ty "str"]) (ρ1 := ρ) ((bind_okD v1).trans rfl)).trans (isi_str _ _)
  have a2 : ((((M.var 1).cons (M.ret [])).bind (g1 lenD)).two (M.ret K_MOST_WORD) gLeA) ρ = .ok (.bl true) ρ := by
    refine (two_okD (a := D.int w.length) (b := K_MOST_WORD) (ρ1 := ρ) (ρ2 := ρ) ((bind_okD (a := [D.str (wrd w)]) (ρ1 := ρ) ((bind_okD v1).trans rfl)).trans ?_) rfl).trans ?_
    · have hz : lineS (wrd w) = true := by
        unfold lineS
        rw [wrd_len]
        exact decide_eq_true (by omega)
      simp [lenD, hz, wrd_len]
    · have : (w.length : Int) ≤ 60 := by omega
      simp [gLeA, K_MOST_WORD, this]
  have a3 : (((((M.var 1).bind itemsK).bind (M.comp (List.map (fun x => x.snd) [((Str.ofString "x"), 2)]) (Tg.name 2) (M.ret true) ((M.var 2).two (M.var 0) gIn))).cons (M.ret [])).bind (g1 allD)) ρ = .ok (.bl true) ρ :=
    (bind_okD (a := [D.lst (w.map fun _ => D.bl true)]) (ρ1 := ρ) ((bind_okD ((bind_okD it).trans c)).trans rfl)).trans (all_true w ρ)
  have a4 := (andV_okD a1).trans ((andV_okD a2).trans a3)
  exact (congrArg resD (bind_okD a4)).trans rfl
theorem check_mirrors_eq (n : Nat) (A : Tab) (t : Str) : F_check_mirrors [mir n A t] = .ok .non := by
  unfold F_check_mirrors b_check_mirrors mir
  simp [isi_mir, truD]
theorem if_noD {t : M Bool} {x y : M Out} {ρ ρ1 : Sls} (h : t ρ = .ok false ρ1) : (t.bind fun b => if b = true then x else y) ρ = y ρ1 := by
  unfold M.bind; rw [h]; rfl
theorem check_words_eq (n : Nat) (A : Tab) (t : Str) (w : List Nat) (hn : n ≤ 6) (hw : ∀ i ∈ w, i < n) (hl : w.length ≤ 60) : F_check_words [mir n A t, .str (wrd w)] = .ok .non := by
  unfold F_check_words b_check_words
  dsimp only
  refine (congrArg resD (seq_nxD (ρ1 := [.im (mir n A t), .im (.tup [.str (wrd w)]), .un]) ?_)).trans ?_
  · have e := check_mirrors_eq n A t
    simp [e, packD]
  · refine (congrArg resD ((bind_okD (a := [D.str (wrd w)]) (ρ1 := [.im (mir n A t), .im (.tup [.str (wrd w)]), .un]) rfl).trans ?_)).trans (b := resD (.ok .nx [.im (mir n A t), .im (.tup [.str (wrd w)]), .im (.str (wrd w))])) rfl
    have hb : ∀ (t' : M Bool) (x : M Out), t' [.im (mir n A t), .im (.tup [.str (wrd w)]), .im (.str (wrd w))] = .ok false [.im (mir n A t), .im (.tup [.str (wrd w)]), .im (.str (wrd w))] → M.loop (Tg.name 2) (t'.bind fun b => if b = true then x else M.nx) [D.str (wrd w)] [.im (mir n A t), .im (.tup [.str (wrd w)]), .un] = .ok .nx [.im (mir n A t), .im (.tup [.str (wrd w)]), .im (.str (wrd w))] := fun t' x h => by
      show (match (t'.bind fun b => if b = true then x else M.nx) [.im (mir n A t), .im (.tup [.str (wrd w)]), .im (.str (wrd w))] with | .ok .nx ρ2 => _ | .ok .ct ρ2 => _ | .ok .bk ρ2 => _ | r => r) = _
      rw [if_noD h]; rfl
    refine hb _ _ ?_
    have v0 : M.var 0 [.im (mir n A t), .im (.tup [.str (wrd w)]), .im (.str (wrd w))] = .ok (mir n A t) [.im (mir n A t), .im (.tup [.str (wrd w)]), .im (.str (wrd w))] := rfl
    have a1 : ((M.prop (Str.ofString "Mirrors") F_Mirrors_letters (M.var 0)).cons ((M.var 2).cons (M.ret []))) [.im (mir n A t), .im (.tup [.str (wrd w)]), .im (.str (wrd w))] = .ok [.str (lts n), .str (wrd w)] [.im (mir n A t), .im (.tup [.str (wrd w)]), .im (.str (wrd w))] := (bind_okD (prop_mir v0 (letters_eq n A t))).trans rfl
    have a2 : M.call 2 F_is_word [.str (lts n), .str (wrd w)] [.im (mir n A t), .im (.tup [.str (wrd w)]), .im (.str (wrd w))] = .ok (.bl true) [.im (mir n A t), .im (.tup [.str (wrd w)]), .im (.str (wrd w))] := by
      simp [is_word_eq n w hn hw hl]
    have a3 := (bind_okD (k := M.call 2 F_is_word) a1).trans a2
    have a4 := (bind_okD (k := truD) a3).trans (show truD (.bl true) _ = .ok true _ from rfl)
    exact (bind_okD a4).trans rfl
theorem lts_len (n : Nat) : (lts n).length = n := by
  unfold lts Str.length
  simp
theorem size_eq (n : Nat) (A : Tab) (t : Str) (hn : n ≤ 6) : F_Mirrors_size [mir n A t] = .ok (.int n) := by
  unfold F_Mirrors_size b_Mirrors_size mir
  have hz : lineS (lts n) = true := by
    unfold lineS
    rw [lts_len]
    exact decide_eq_true (by omega)
  simp [at_letters, lenD, hz, lts_len]
theorem ne_int (i : Int) (ρ : Sls) : gNeA (.int i) (.int i) ρ = .ok (.bl false) ρ := by
  unfold gNeA M.alt gSS gNe gEqB
  simp [toPy, SeqAt.shaped, PyData.eqv]
  rw [if_pos ⟨rfl, Nat.le_of_ble_eq_true rfl⟩]; rfl
theorem check_row_eq (n : Nat) (A : Tab) (t : Str) (r : List Int) (hn : n ≤ 6) (hr : r.length = n) : F_check_row [mir n A t, rowD r] = .ok .non := by
  unfold F_check_row b_check_row
  dsimp only
  have v1 : M.var 1 [.im (mir n A t), .im (rowD r), .un, .un] = .ok (rowD r) [.im (mir n A t), .im (rowD r), .un, .un] := rfl
  have v0 : M.var 0 [.im (mir n A t), .im (rowD r), .un, .un] = .ok (mir n A t) [.im (mir n A t), .im (rowD r), .un, .un] := rfl
  refine (congrArg resD (seq_nxD (ρ1 := [.im (mir n A t), .im (rowD r), .un, .un]) (if_noD ?_))).trans ?_
  · have b1 : (((M.var 1).cons ((M.ret (D.ty "tuple")).cons (M.ret []))).bind (g2 (isiD ins exc kt))) [.im (mir n A t), .im (rowD r), .un, .un] = .ok (.bl true) [.im (mir n A t), .im (rowD r), .un, .un] := by
      refine (bind_okD (a := [rowD r, D.ty "tuple"]) (ρ1 := [.im (mir n A t), .im (rowD r), .un, .un]) ((bind_okD v1).trans rfl)).trans ?_
      exact isi_tup _ _
    have a1 : (((((M.var 1).cons ((M.ret (D.ty "tuple")).cons (M.ret []))).bind (g2 (isiD ins exc kt))).bind truD).bind fun x => M.ret !x) [.im (mir n A t), .im (rowD r), .un, .un] = .ok false [.im (mir n A t), .im (rowD r), .un, .un] := by
      refine (bind_okD (a := true) (ρ1 := [.im (mir n A t), .im (rowD r), .un, .un]) ((bind_okD b1).trans rfl)).trans rfl
    have a2 : (((((M.var 1).cons (M.ret [])).bind (g1 lenD)).two (M.prop (Str.ofString "Mirrors") F_Mirrors_size (M.var 0)) gNeA).bind M.tb) [.im (mir n A t), .im (rowD r), .un, .un] = .ok false [.im (mir n A t), .im (rowD r), .un, .un] := by
      have l1 : (((M.var 1).cons (M.ret [])).bind (g1 lenD)) [.im (mir n A t), .im (rowD r), .un, .un] = .ok (.int n) [.im (mir n A t), .im (rowD r), .un, .un] := by
        refine (bind_okD (a := [rowD r]) (ρ1 := [.im (mir n A t), .im (rowD r), .un, .un]) ((bind_okD v1).trans rfl)).trans ?_
        show Ret.ok (D.int ((r.map D.int).length : Nat)) _ = _
        rw [List.length_map, hr]
      refine (bind_okD (a := D.bl false) (ρ1 := [.im (mir n A t), .im (rowD r), .un, .un]) ((two_okD l1 (prop_mir v0 (size_eq n A t hn))).trans (ne_int n _))).trans rfl
    exact (bind_okD a1).trans a2
  · refine (congrArg resD ((bind_okD (a := pairsD (r.map D.int)) (ρ1 := [.im (mir n A t), .im (rowD r), .un, .un]) ((bind_okD (a := [rowD r]) (ρ1 := [.im (mir n A t), .im (rowD r), .un, .un]) ((bind_okD v1).trans rfl)).trans rfl)))).trans ?_
    have hp : pairsD (r.map D.int) = (List.range r.length).map fun (k : Nat) => D.tup [.int (k : Nat), .int (r.getD k 0)] := by
      unfold pairsD
      rw [List.length_map]
      refine List.map_congr_left fun k hk => ?_
      have hk2 := List.mem_range.mp hk
      rw [List.getD_eq_getElem?_getD, List.getElem?_map, List.getElem?_eq_getElem hk2, List.getD_eq_getElem?_getD, List.getElem?_eq_getElem hk2]; rfl
    rw [hp]
    obtain ⟨ρ', e1, e2⟩ := loop_foldI (g := Tg.tup 2 (Tgs.cons (Tg.name 2) (Tgs.cons (Tg.name 3) Tgs.nil))) (body := (((((M.var 3).cons (M.ret [])).bind (M.call 1 F_is_integer)).bind truD).bind fun x => M.ret !x).bind fun x => if x = true then M.rais 1 (Str.ofString "InvalidRow") (fD1 (Str.ofString "index")) ((M.var 2).cons (M.ret [])) else M.nx) (fun (k : Nat) => D.tup [.int (k : Nat), .int (r.getD k 0)]) (fun (_ : Unit) ρ => ∃ a b, ρ = [.im (mir n A t), .im (rowD r), a, b]) (fun s _ => s) (List.range r.length) () [.im (mir n A t), .im (rowD r), .un, .un] ⟨_, _, rfl⟩ fun k hk s ρ ⟨a, b, e⟩ => by
      subst e
      refine ⟨[.im (mir n A t), .im (rowD r), .im (.int k), .im (.int (r.getD k 0))], [.im (mir n A t), .im (rowD r), .im (.int k), .im (.int (r.getD k 0))], by simp, ?_, _, _, rfl⟩
      simp [is_integer_eq, truD]
    rw [e1]; rfl
theorem send_eq (n : Nat) (A : Tab) (t : Str) (w : List Nat) (r : List Int) (hn : n ≤ 6) (hA : okA A) (hw : ∀ i ∈ w, i < n) (hl : w.length ≤ 60) (hr : r.length = n) : F_send [mir n A t, .str (wrd w), rowD r] = .ok (rowD (sendW n A w r)) := by
  unfold F_send b_send
  simp [check_words_eq n A t w hn hw hl, check_row_eq n A t r hn hr, shares_eq n A t hn hA, word_eq n A w r hn hw hr (by omega), DL.M.callR]

/-! K05_M6 -/
def unit (n i : Nat) : List Int := (List.range n).map fun j => if j = i then 1 else 0
theorem unit_len (n i : Nat) : (unit n i).length = n := by unfold unit; rw [List.length_map, List.length_range]
theorem keys_sh (n : Nat) (A : Tab) (ρ : Sls) : itemsK (shD n A) ρ = .ok ((List.range n).map fun j => D.str (ltr j)) ρ := by
  unfold shD
  simp
  exact fun a _ => rfl
theorem single_eq (n : Nat) (A : Tab) (i : Nat) (hn : n ≤ 6) : F_single_row [shD n A, .str (ltr i)] = .ok (rowD (unit n i)) := by
  unfold F_single_row b_single_row
  dsimp only
  have v0 : M.var 0 [.im (shD n A), .im (.str (ltr i)), .un] = .ok (shD n A) [.im (shD n A), .im (.str (ltr i)), .un] := rfl
  refine (congrArg resD (bind_okD (a := rowD (unit n i)) (ρ1 := [.im (shD n A), .im (.str (ltr i)), .un]) ?_)).trans rfl
  refine (bind_okD (a := [D.lst ((unit n i).map D.int)]) (ρ1 := [.im (shD n A), .im (.str (ltr i)), .un]) ?_).trans rfl
  refine (bind_okD (a := D.lst ((unit n i).map D.int)) (ρ1 := [.im (shD n A), .im (.str (ltr i)), .un]) ?_).trans rfl
  refine (bind_okD ((bind_okD v0).trans (keys_sh n A _))).trans ?_
  refine (comp_mapI _ (fun j => D.int (if j = i then 1 else 0)) _ (range_len n hn) fun j hj => ?_).trans ?_
  · refine ⟨[.im (shD n A), .im (.str (ltr i)), .im (.str (ltr j))], _, [.im (shD n A), .im (.str (ltr i)), .im (.str (ltr j))], rfl, rfl, ?_, rfl⟩
    by_cases h : j = i
    · subst h; simp
    · have : ¬ ltr j = ltr i := fun z => h (ltr_inj z)
      simp [h, this]
  · unfold unit
    rw [List.map_map]; rfl
theorem rows_eq (n : Nat) (A : Tab) (t : Str) (w : List Nat) (hn : n ≤ 6) (hA : okA A) (hw : ∀ i ∈ w, i < n) (hl : w.length ≤ 60) : F_rows_of [mir n A t, .str (wrd w)] = .ok (.tup ((List.range n).map fun i => rowD (sendW n A w (unit n i)))) := by
  unfold F_rows_of b_rows_of
  dsimp only
  refine (congrArg resD (seq_nxD (ρ1 := [.im (mir n A t), .im (.str (wrd w)), .un, .un]) ?_)).trans ?_
  · simp [check_words_eq n A t w hn hw hl, DL.M.callR]
  · refine (congrArg resD (seq_nxD (ρ1 := [.im (mir n A t), .im (.str (wrd w)), .im (shD n A), .un]) ?_)).trans ?_
    · simp [shares_eq n A t hn hA]
    · have v0 : M.var 0 [.im (mir n A t), .im (.str (wrd w)), .im (shD n A), .un] = .ok (mir n A t) [.im (mir n A t), .im (.str (wrd w)), .im (shD n A), .un] := rfl
      refine (congrArg resD (bind_okD (a := D.tup ((List.range n).map fun i => rowD (sendW n A w (unit n i)))) (ρ1 := [.im (mir n A t), .im (.str (wrd w)), .im (shD n A), .un]) ?_)).trans rfl
      refine (bind_okD (a := [D.lst ((List.range n).map fun i => rowD (sendW n A w (unit n i)))]) (ρ1 := [.im (mir n A t), .im (.str (wrd w)), .im (shD n A), .un]) ?_).trans rfl
      refine (bind_okD (a := D.lst ((List.range n).map fun i => rowD (sendW n A w (unit n i)))) (ρ1 := [.im (mir n A t), .im (.str (wrd w)), .im (shD n A), .un]) ?_).trans rfl
      refine (bind_okD (a := (List.range n).map fun i => D.str (ltr i)) (ρ1 := [.im (mir n A t), .im (.str (wrd w)), .im (shD n A), .un]) ((bind_okD (prop_mir v0 (letters_eq n A t))).trans ?_)).trans ?_
      · simp [signs_lts]
      · refine comp_mapI _ (fun i => rowD (sendW n A w (unit n i))) _ (range_len n hn) fun i hi => ?_
        refine ⟨[.im (mir n A t), .im (.str (wrd w)), .im (shD n A), .im (.str (ltr i))], _, [.im (mir n A t), .im (.str (wrd w)), .im (shD n A), .im (.str (ltr i))], rfl, rfl, ?_, rfl⟩
        simp [single_eq n A i hn, word_eq n A w (unit n i) hn hw (unit_len n i) (by omega)]

/-! K05_M7 -/
theorem dot_set : ∀ (a r : List Int) (i : Nat) (x : Int), i < r.length → a.length = r.length → dot a (r.set i x) = dot a r + a.getD i 0 * (x - r.getD i 0)
  | [], [], i, _, h, _ => absurd h (Nat.not_lt_zero i)
  | [], _ :: _, _, _, _, h => by cases h
  | _ :: _, [], _, _, _, h => by cases h
  | a :: as, r :: rs, 0, x, _, _ => by
    unfold dot
    simp
    have e : a * (x - r) = a * x - a * r := Int.mul_sub ..
    omega
  | a :: as, r :: rs, i + 1, x, h, hl => by
    have ih := dot_set as rs i x (Nat.lt_of_succ_lt_succ h) (Nat.succ.inj hl)
    unfold dot at ih ⊢
    simp only [List.set_cons_succ, List.zipWith_cons_cons, List.sum_cons, List.getD_cons_succ]
    rw [ih]
    omega
theorem sendL_set (n : Nat) (A : Tab) (i : Nat) (r : List Int) (hi : i < r.length) : sendL n A i r = r.set i (r.getD i 0 + dot (shR n A i) r) := by
  unfold sendL
  rw [List.set_eq_take_append_cons_drop, if_pos hi, List.append_assoc]; rfl
theorem shR_len (n : Nat) (A : Tab) (i : Nat) : (shR n A i).length = n := by unfold shR; rw [List.length_map, List.length_range]
theorem shR_self (n : Nat) (A : Tab) (i : Nat) (hi : i < n) : (shR n A i).getD i 0 = -2 := by
  unfold shR
  rw [List.getD_eq_getElem?_getD, List.getElem?_map, List.getElem?_range hi]
  show cf A i i = -2
  unfold cf
  rw [if_pos rfl]
/-- a letter sent twice -/
theorem sendL_twice (n : Nat) (A : Tab) (i : Nat) (r : List Int) (hi : i < n) (hr : r.length = n) : sendL n A i (sendL n A i r) = r := by
  have h1 : i < r.length := by omega
  have h2 : i < (sendL n A i r).length := by rw [sendL_len n A i r h1]; exact h1
  rw [sendL_set n A i _ h2, sendL_set n A i r h1]
  have e1 : (r.set i (r.getD i 0 + dot (shR n A i) r)).getD i 0 = r.getD i 0 + dot (shR n A i) r := by
    rw [List.getD_eq_getElem?_getD, List.getElem?_set_self h1]; rfl
  rw [e1, dot_set _ _ _ _ h1 (by rw [shR_len, hr]), shR_self n A i hi, List.set_set]
  have e2 : r.getD i 0 + dot (shR n A i) r + (dot (shR n A i) r + -2 * (r.getD i 0 + dot (shR n A i) r - r.getD i 0)) = r.getD i 0 := by omega
  rw [e2]
  apply List.ext_getElem?
  intro j
  by_cases hj : i = j
  · subst hj
    rw [List.getElem?_set_self h1, List.getD_eq_getElem?_getD, List.getElem?_eq_getElem h1]; rfl
  · rw [List.getElem?_set_ne hj]
/-- a word and the word turned about behind it -/
theorem sendW_back (n : Nat) (A : Tab) (w : List Nat) (r : List Int) (hw : ∀ i ∈ w, i < n) (hr : r.length = n) : sendW n A w.reverse (sendW n A w r) = r := by
  unfold sendW
  rw [List.reverse_reverse]
  have key : ∀ (l : List Nat) (r : List Int), (∀ i ∈ l, i < n) → r.length = n → l.reverse.foldl (fun r i => sendL n A i r) (l.foldl (fun r i => sendL n A i r) r) = r := by
    intro l
    induction l with
    | nil => intro r _ _; rfl
    | cons a l ih =>
      intro r h1 h2
      have ha := h1 a (List.mem_cons_self ..)
      rw [List.reverse_cons, List.foldl_append, List.foldl_cons, List.foldl_nil, List.foldl_cons, ih (sendL n A a r) (fun i hi => h1 i (List.mem_cons_of_mem _ hi)) (by rw [sendL_len n A a r (by omega)]; exact h2)]
      exact sendL_twice n A a r ha h2
  have := key w.reverse r (fun i hi => hw i (List.mem_reverse.mp hi)) hr
  rw [List.reverse_reverse] at this
  exact this
def addR (a b : List Int) : List Int := List.zipWith (· + ·) a b
theorem dot_add : ∀ (a r m : List Int), r.length = m.length → a.length = r.length → dot a (addR r m) = dot a r + dot a m
  | [], [], [], _, _ => rfl
  | [], _ :: _, _, _, h => by cases h
  | _ :: _, [], _, _, h => by cases h
  | _, [], _ :: _, h, _ => by cases h
  | _, _ :: _, [], h, _ => by cases h
  | a :: as, r :: rs, m :: ms, h, hl => by
    have ih := dot_add as rs ms (Nat.succ.inj h) (Nat.succ.inj hl)
    unfold dot addR at ih ⊢
    simp only [List.zipWith_cons_cons, List.sum_cons]
    rw [ih, Int.mul_add]
    omega
theorem addR_len (a b : List Int) (h : a.length = b.length) : (addR a b).length = a.length := by
  unfold addR; rw [List.length_zipWith, h, Nat.min_self]
theorem addR_getD (a b : List Int) (i : Nat) (h : a.length = b.length) (hi : i < a.length) : (addR a b).getD i 0 = a.getD i 0 + b.getD i 0 := by
  unfold addR
  have hb : i < b.length := by omega
  rw [List.getD_eq_getElem?_getD, List.getElem?_zipWith, List.getElem?_eq_getElem hi, List.getElem?_eq_getElem hb, List.getD_eq_getElem?_getD, List.getElem?_eq_getElem hi, List.getD_eq_getElem?_getD, List.getElem?_eq_getElem hb]
  rfl
theorem sendL_add (n : Nat) (A : Tab) (i : Nat) (r m : List Int) (hi : i < n) (hr : r.length = n) (hm : m.length = n) : sendL n A i (addR r m) = addR (sendL n A i r) (sendL n A i m) := by
  have hl : r.length = m.length := by omega
  have h0 := addR_len r m hl
  rw [sendL_set n A i _ (by omega), sendL_set n A i r (by omega), sendL_set n A i m (by omega), addR_getD r m i hl (by omega), dot_add _ r m hl (by rw [shR_len, hr])]
  apply List.ext_getElem?
  intro j
  unfold addR
  by_cases hj : i = j
  · subst hj
    rw [List.getElem?_set_self (by rw [List.length_zipWith]; omega), List.getElem?_zipWith, List.getElem?_set_self (by omega), List.getElem?_set_self (by omega)]
    show some _ = some _
    congr 1
    omega
  · rw [List.getElem?_set_ne hj, List.getElem?_zipWith, List.getElem?_zipWith, List.getElem?_set_ne hj, List.getElem?_set_ne hj]
theorem sendW_add (n : Nat) (A : Tab) (w : List Nat) (r m : List Int) (hw : ∀ i ∈ w, i < n) (hr : r.length = n) (hm : m.length = n) : sendW n A w (addR r m) = addR (sendW n A w r) (sendW n A w m) := by
  unfold sendW
  have key : ∀ (l : List Nat) (r m : List Int), (∀ i ∈ l, i < n) → r.length = n → m.length = n → l.foldl (fun r i => sendL n A i r) (addR r m) = addR (l.foldl (fun r i => sendL n A i r) r) (l.foldl (fun r i => sendL n A i r) m) := by
    intro l
    induction l with
    | nil => intro r m _ _ _; rfl
    | cons a l ih =>
      intro r m h1 h2 h3
      have ha := h1 a (List.mem_cons_self ..)
      rw [List.foldl_cons, List.foldl_cons, List.foldl_cons, sendL_add n A a r m ha h2 h3]
      exact ih _ _ (fun i hi => h1 i (List.mem_cons_of_mem _ hi)) (by rw [sendL_len n A a r (by omega)]; exact h2) (by rw [sendL_len n A a m (by omega)]; exact h3)
  exact key _ r m (fun i hi => hw i (List.mem_reverse.mp hi)) hr hm

/-! K05_M8 -/
theorem dot_range : ∀ (a r : List Int), a.length = r.length → dot a r = ((List.range r.length).map fun j => a.getD j 0 * r.getD j 0).sum
  | [], [], _ => rfl
  | [], _ :: _, h => by cases h
  | _ :: _, [], h => by cases h
  | a :: as, r :: rs, h => by
    have ih := dot_range as rs (Nat.succ.inj h)
    rw [List.length_cons, List.range_succ_eq_map, List.map_cons, List.map_map, List.sum_cons]
    unfold dot at ih ⊢
    rw [List.zipWith_cons_cons, List.sum_cons, ih]
    rfl
theorem cdot_range (S : Cox.Sys) (x : Nat) (r : Cox.R) : ∀ k, Cox.dot S x r k = ((List.range k).map fun j => S.c x j * r j).sum
  | 0 => rfl
  | k + 1 => by
    rw [List.range_succ, List.map_append, List.sum_append, ← cdot_range S x r k]
    show _ = _ + (S.c x k * r k + 0)
    rw [Int.add_zero]; rfl
theorem wgt_two (b : Bool) : wgt 2 b = 0 := by cases b <;> rfl
theorem sys_ok (A : Tab) (hA : okA A) (x y : Nat) (ne : x ≠ y) : ((lk A (min x y) (max x y)).toNat = 2 ∧ cf A x y = 0 ∧ cf A y x = 0) ∨ ((lk A (min x y) (max x y)).toNat = 3 ∧ cf A x y = 1 ∧ cf A y x = 1) ∨ ((lk A (min x y) (max x y)).toNat = 4 ∧ cf A x y = 1 ∧ cf A y x = 2) ∨ ((lk A (min x y) (max x y)).toNat = 4 ∧ cf A x y = 2 ∧ cf A y x = 1) ∨
    ((lk A (min x y) (max x y)).toNat = 6 ∧ cf A x y = 1 ∧ cf A y x = 3) ∨ ((lk A (min x y) (max x y)).toNat = 6 ∧ cf A x y = 3 ∧ cf A y x = 1) ∨ ((lk A (min x y) (max x y)).toNat = 0 ∧ cf A x y = 2 ∧ cf A y x = 2) := by
  unfold cf
  rw [if_neg ne, if_neg (Ne.symm ne), Nat.min_comm y x, Nat.max_comm y x]
  have h := hA (min x y) (max x y)
  generalize lk A (min x y) (max x y) = v at h ⊢
  by_cases hl : x < y
  · have h2 : ¬ y < x := by omega
    rw [decide_eq_true hl, decide_eq_false h2]
    rcases h with rfl | rfl | rfl | rfl | rfl <;> decide
  · have h2 : y < x := by omega
    rw [decide_eq_true h2, decide_eq_false hl]
    rcases h with rfl | rfl | rfl | rfl | rfl <;> decide
def sysOf (n : Nat) (A : Tab) (hA : okA A) : Cox.Sys where
  n := n
  m := fun x y => (lk A (min x y) (max x y)).toNat
  c := cf A
  msym := fun x y => by rw [Nat.min_comm, Nat.max_comm]
  cs := fun x => by unfold cf; rw [if_pos rfl]
  ok := fun x y ne => sys_ok A hA x y ne
def toR (r : List Int) : Cox.R := fun z => r.getD z 0
theorem snd_eq (n : Nat) (A : Tab) (hA : okA A) (i : Nat) (r : List Int) (hi : i < n) (hr : r.length = n) : Cox.snd (sysOf n A hA) i (toR r) = toR (sendL n A i r) := by
  have h1 : i < r.length := by omega
  have e : Cox.add (sysOf n A hA) i (toR r) = dot (shR n A i) r := by
    unfold Cox.add
    rw [cdot_range, dot_range _ _ (by rw [shR_len, hr]), hr]
    show ((List.range n).map fun j => cf A i j * r.getD j 0).sum = _
    congr 1
    refine List.map_congr_left fun j hj => ?_
    have hj2 := List.mem_range.mp hj
    unfold shR
    rw [List.getD_eq_getElem?_getD (l := (List.range n).map _), List.getElem?_map, List.getElem?_range hj2]; rfl
  funext z
  unfold Cox.snd
  rw [e, sendL_set n A i r h1]
  unfold toR
  by_cases h : z = i
  · subst h
    rw [if_pos rfl, List.getD_eq_getElem?_getD (l := r.set z _), List.getElem?_set_self h1]; rfl
  · rw [if_neg h, List.getD_eq_getElem?_getD (l := r.set i _), List.getElem?_set_ne (Ne.symm h), ← List.getD_eq_getElem?_getD]
theorem act_eq (n : Nat) (A : Tab) (hA : okA A) : ∀ (w : List Nat) (r : List Int), (∀ i ∈ w, i < n) → r.length = n → Cox.act (sysOf n A hA) w (toR r) = toR (sendW n A w r)
  | [], r, _, _ => rfl
  | x :: w, r, hw, hr => by
    have e : sendW n A (x :: w) r = sendL n A x (sendW n A w r) := by
      unfold sendW
      rw [List.reverse_cons, List.foldl_append]; rfl
    rw [e, ← snd_eq n A hA x (sendW n A w r) (hw x (List.mem_cons_self ..)) (sendW_len n A w r (fun i hi => hw i (List.mem_cons_of_mem _ hi)) hr), ← act_eq n A hA w r (fun i hi => hw i (List.mem_cons_of_mem _ hi)) hr]
    rfl
theorem unit_one (n i : Nat) (hi : i < n) : toR (unit n i) = Cox.one i := by
  funext z
  unfold toR unit Cox.one
  by_cases hz : z < n
  · rw [List.getD_eq_getElem?_getD, List.getElem?_map, List.getElem?_range hz]; rfl
  · rw [List.getD_eq_getElem?_getD, List.getElem?_eq_none (by rw [List.length_map, List.length_range]; omega), if_neg (by omega)]; rfl
/-- what a single row is sent to is nowhere below 0, or nowhere above -/
theorem root_sign (n : Nat) (A : Tab) (hA : okA A) (w : List Nat) (i : Nat) (hw : ∀ j ∈ w, j < n) (hi : i < n) : (∀ v ∈ sendW n A w (unit n i), 0 ≤ v) ∨ (∀ v ∈ sendW n A w (unit n i), v ≤ 0) := by
  have h := Cox.root (S := sysOf n A hA) (w := w) (s := i) hw hi
  rw [← unit_one n i hi, act_eq n A hA w (unit n i) hw (unit_len n i)] at h
  have at_ : ∀ v ∈ sendW n A w (unit n i), ∃ z, toR (sendW n A w (unit n i)) z = v := fun v hv => by
    obtain ⟨z, hz⟩ := List.mem_iff_getElem?.mp hv
    exact ⟨z, by unfold toR; rw [List.getD_eq_getElem?_getD, hz]; rfl⟩
  rcases h with h | h
  · exact .inl fun v hv => by obtain ⟨z, e⟩ := at_ v hv; rw [← e]; exact h z
  · exact .inr fun v hv => by obtain ⟨z, e⟩ := at_ v hv; rw [← e]; exact h z

/-! K05_M9 -/
def key (t : Nat × Nat × Int) : Key := .inr (ltr t.1 ++ ltr t.2.1)
def dctD (A : Tab) : D := .dct (A.map fun t => (key t, .int t.2.2))
def planD (n : Nat) (A : Tab) : D := .lst [.int n, dctD A]
theorem key_eq (a b i j : Nat) : (ltr a ++ ltr b = ltr i ++ ltr j) ↔ a = i ∧ b = j := by
  constructor
  · intro h
    have h2 : (#[97 + a] ++ #[97 + b] : Array Nat) = #[97 + i] ++ #[97 + j] := congrArg Str.cps h
    have h3 := congrArg Array.toList h2
    simp at h3
    omega
  · rintro ⟨rfl, rfl⟩; rfl
theorem val_dct (A : Tab) (i j : Nat) : (valD (A.map fun t => (key t, D.int t.2.2)) (.inr (ltr i ++ ltr j))).getD (.int 2) = .int (lk A i j) := by
  unfold valD lk
  rw [List.find?_map]
  have e : ((fun kv : Key × D => decide (kv.1 = .inr (ltr i ++ ltr j))) ∘ fun t : Nat × Nat × Int => (key t, D.int t.2.2)) = fun t => t.1 == i && t.2.1 == j := by
    funext t
    show decide (key t = .inr (ltr i ++ ltr j)) = _
    unfold key
    by_cases h : t.1 = i ∧ t.2.1 = j
    · rw [decide_eq_true (by rw [(key_eq t.1 t.2.1 i j).mpr h]), h.1, h.2, beq_self_eq_true, beq_self_eq_true]; rfl
    · rw [decide_eq_false (fun z => h ((key_eq t.1 t.2.1 i j).mp (Sum.inr.inj z)))]
      symm
      rw [Bool.and_eq_false_iff]
      by_cases h1 : t.1 = i
      · exact .inr (beq_eq_false_iff_ne.mpr fun z => h ⟨h1, z⟩)
      · exact .inl (beq_eq_false_iff_ne.mpr h1)
  rw [e]
  cases A.find? (fun t => t.1 == i && t.2.1 == j) <;> rfl
theorem law_m_eq (n : Nat) (A : Tab) (i j : Nat) : F__law_m [planD n A, .str (ltr i), .str (ltr j)] = .ok (.int (lk A (min i j) (max i j))) := by
  unfold F__law_m b__law_m planD
  have hl : (ltr (min i j)).length + (ltr (max i j)).length ≤ 16777216 := Nat.le_of_ble_eq_true rfl
  have h1 : (if (ltr j).cps < (ltr i).cps then ltr j else ltr i) = ltr (min i j) := by
    by_cases h : j < i
    · rw [if_pos ((ltr_ltA j i).mpr h), Nat.min_eq_right (by omega)]
    · rw [if_neg (fun z => h ((ltr_ltA j i).mp z)), Nat.min_eq_left (by omega)]
  have h2 : (if (ltr i).cps < (ltr j).cps then ltr j else ltr i) = ltr (max i j) := by
    by_cases h : i < j
    · rw [if_pos ((ltr_ltA i j).mpr h), Nat.max_eq_right (by omega)]
    · rw [if_neg (fun z => h ((ltr_ltA i j).mp z)), Nat.max_eq_left (by omega)]
  have h3 := val_dct A (min i j) (max i j)
  simp [h1, h2, hl, DL.M.get2, dctD, h3]
theorem eq_ii (a b : Int) (ρ : Sls) : gEqB false (.int a) (.int b) ρ = .ok (.bl (decide (a = b))) ρ := by
  have h1 : SeqAt.shaped (.int a) = true := rfl
  have h2 : SeqAt.shaped (.int b) = true := rfl
  unfold gEqB
  show M.grd (SeqAt.shaped (.int a) && SeqAt.shaped (.int b)) (M.ret (D.bl (PyData.eqv (.int a) (.int b)))) ρ = _
  rw [h1, h2]
  show Ret.ok (D.bl (PyData.eqv (.int a) (.int b))) ρ = _
  have h3 : PyData.eqv (.int a) (.int b) = decide (a = b) := by
    by_cases h : a = b
    · subst h; simp [PyData.eqv]
    · simp [PyData.eqv, h]
  rw [h3]
theorem law_c_eq (n : Nat) (A : Tab) (hA : okA A) (i j : Nat) (ne : i ≠ j) : F__law_c [planD n A, .str (ltr i), .str (ltr j)] = .ok (.int (cf A i j)) := by
  unfold F__law_c b__law_c
  have e := law_m_eq n A i j
  have hv := hA (min i j) (max i j)
  unfold cf
  rw [if_neg ne]
  generalize lk A (min i j) (max i j) = v at e hv
  have hl : (ltr i).cps < (ltr j).cps ↔ i < j := ltr_ltA i j
  have l2 : Nat.log2 2 < 9000 := by decide
  by_cases hij : i < j
  · rcases hv with rfl | rfl | rfl | rfl | rfl <;> simp [e, eq_ii, hl, hij, wgt]
  · rcases hv with rfl | rfl | rfl | rfl | rfl <;> simp [e, eq_ii, hl, hij, wgt, l2]

/-! K05_MA -/
theorem rng_eq (n : Nat) (hn : n ≤ 6) (ρ : Sls) : range1 [.int n] ρ = .ok ((List.range n).map fun (k : Nat) => D.int k) ρ := by
  have h : big (n : Int) = true := by
    unfold big
    simp
    omega
  unfold range1
  dsimp only
  rw [h]
  have e : rangeD 0 (n : Int).toNat = (List.range n).map fun (k : Nat) => D.int k := by
    unfold rangeD
    rw [Int.toNat_natCast]
    simp only [Int.zero_add]
  show Ret.ok (rangeD 0 (n : Int).toNat) ρ = _
  rw [e]
theorem plan_n (n : Nat) (A : Tab) (ρ : Sls) : gIxA (planD n A) (.int 0) ρ = .ok (.int n) ρ := rfl
theorem at_row (r : List Int) (i : Nat) (h : i < r.length) : L2.atI (r.map D.int) (i : Int) = some (.int (r.getD i 0)) := by
  have h1 : L2.ixN (r.map D.int).length (i : Int) = some i := by
    unfold L2.ixN
    rw [List.length_map, if_pos (by omega), if_pos (by omega), Int.toNat_natCast]
  unfold L2.atI
  rw [h1]
  show (r.map D.int)[i]? = _
  rw [List.getElem?_map, List.getElem?_eq_getElem h, List.getD_eq_getElem?_getD, List.getElem?_eq_getElem h]; rfl
theorem alpha_ix (j : Nat) (h : j < 6) (ρ : Sls) : gIxA (.str "abcdef") (.int (j : Int)) ρ = .ok (.str (ltr j)) ρ := by
  match j, h with
  | 0, _ => kernel_rfl
  | 1, _ => kernel_rfl
  | 2, _ => kernel_rfl
  | 3, _ => kernel_rfl
  | 4, _ => kernel_rfl
  | 5, _ => kernel_rfl
theorem ne_ii (a b : Int) (ρ : Sls) : gEqB true (.int a) (.int b) ρ = .ok (.bl (!decide (a = b))) ρ := by
  have h1 : SeqAt.shaped (.int a) = true := rfl
  have h2 : SeqAt.shaped (.int b) = true := rfl
  unfold gEqB
  show M.grd (SeqAt.shaped (.int a) && SeqAt.shaped (.int b)) (M.ret (D.bl (!PyData.eqv (.int a) (.int b)))) ρ = _
  rw [h1, h2]
  show Ret.ok (D.bl (!PyData.eqv (.int a) (.int b))) ρ = _
  have h3 : PyData.eqv (.int a) (.int b) = decide (a = b) := by
    by_cases h : a = b
    · subst h; simp [PyData.eqv]
    · simp [PyData.eqv, h]
  rw [h3]
def stepT (A : Tab) (i : Nat) (r : List Int) (tt : Int) (j : Nat) : Int := if j = i then tt else tt + cf A i j * r.getD j 0
theorem tot_eq (A : Tab) (i : Nat) (r : List Int) : ∀ k, (List.range k).foldl (stepT A i r) 0 = ((List.range k).map fun j => cf A i j * r.getD j 0).sum + (if i < k then 2 * r.getD i 0 else 0)
  | 0 => by simp
  | k + 1 => by
    rw [List.range_succ, List.foldl_append, List.foldl_cons, List.foldl_nil, tot_eq A i r k, List.map_append, List.sum_append]
    show stepT A i r _ k = _ + (cf A i k * r.getD k 0 + 0) + _
    unfold stepT
    by_cases h : k = i
    · subst h
      have e : cf A k k = -2 := by unfold cf; rw [if_pos rfl]
      rw [if_pos rfl, if_neg (by omega), if_pos (by omega), e]
      omega
    · rw [if_neg h]
      by_cases h2 : i < k
      · rw [if_pos h2, if_pos (by omega)]; omega
      · rw [if_neg h2, if_neg (by omega)]; omega
theorem tot_send (n : Nat) (A : Tab) (i : Nat) (r : List Int) (hi : i < n) (hr : r.length = n) : (List.range n).foldl (stepT A i r) 0 - r.getD i 0 = r.getD i 0 + dot (shR n A i) r := by
  rw [tot_eq, if_pos hi, dot_range _ _ (by rw [shR_len, hr]), hr]
  have e : ((List.range n).map fun j => (shR n A i).getD j 0 * r.getD j 0) = (List.range n).map fun j => cf A i j * r.getD j 0 := by
    refine List.map_congr_left fun j hj => ?_
    have hj2 := List.mem_range.mp hj
    unfold shR
    rw [List.getD_eq_getElem?_getD (l := (List.range n).map _), List.getElem?_map, List.getElem?_range hj2]; rfl
  rw [e]
  omega
theorem wrd_rev (w : List Nat) : revS (wrd w) = wrd w.reverse := by
  unfold revS wrd
  simp
theorem lsingle_eq (n : Nat) (A : Tab) (hn : n ≤ 6) (i : Nat) : F__law_single [planD n A, .int i] = .ok (rowD (unit n i)) := by
  unfold F__law_single b__law_single
  dsimp only
  have v0 : M.var 0 [.im (planD n A), .im (.int i), .un] = .ok (planD n A) [.im (planD n A), .im (.int i), .un] := rfl
  refine (congrArg resD (bind_okD (a := rowD (unit n i)) (ρ1 := [.im (planD n A), .im (.int i), .un]) ?_)).trans rfl
  refine (bind_okD (a := [D.lst ((unit n i).map D.int)]) (ρ1 := [.im (planD n A), .im (.int i), .un]) ?_).trans rfl
  refine (bind_okD (a := D.lst ((unit n i).map D.int)) (ρ1 := [.im (planD n A), .im (.int i), .un]) ?_).trans rfl
  refine (bind_okD (a := (List.range n).map fun (k : Nat) => D.int k) (ρ1 := [.im (planD n A), .im (.int i), .un]) ?_).trans ?_
  · exact (bind_okD (a := [D.int n]) (ρ1 := [.im (planD n A), .im (.int i), .un]) ((bind_okD ((two_okD v0 (b := D.int 0) rfl).trans (plan_n n A _))).trans rfl)).trans (rng_eq n hn _)
  refine (comp_mapI _ (fun j => D.int (if j = i then 1 else 0)) _ (range_len n hn) fun j hj => ?_).trans ?_
  · refine ⟨[.im (planD n A), .im (.int i), .im (.int j)], _, [.im (planD n A), .im (.int i), .im (.int j)], rfl, rfl, ?_, rfl⟩
    by_cases h : j = i
    · subst h; simp [eq_ii]
    · have : ¬ (j : Int) = i := fun z => h (by omega)
      simp [h, this, eq_ii]
  · unfold unit
    rw [List.map_map]; rfl

/-! K05_MB -/
theorem ixO_ok {i : Nat} {fb : M D} {ρ : Sls} {ds : List D} {j : Int} {d : D} (h0 : ownL ρ[i]? = some ds) (h1 : fb ρ = .ok (.int j) ρ) (h2 : L2.atI ds j = some d) : M.ixO i fb ρ = .ok d ρ := by
  unfold M.ixO
  rw [h0]
  dsimp only
  rw [bind_okD h1, h0]
  dsimp only
  rw [h2]; rfl
theorem putO_ok {i m : Nat} {fv fk : M D} {ρ : Sls} {ds : List D} {j : Int} {v : D} (hv : fv ρ = .ok v ρ) (h0 : ownL ρ[i]? = some ds) (h1 : fk ρ = .ok (.int j) ρ) (h2 : L2.ixN ds.length j = some m) : M.putO i fv fk ρ = .ok .nx (ρ.set i (reSl (.lst (ds.set m v)) ρ[i]?)) := by
  unfold M.putO
  rw [bind_okD hv]
  rw [h0]
  dsimp only
  rw [bind_okD h1, h0]
  dsimp only
  rw [h2]
theorem call_ok {n : Nat} {F : List D → Res D} {ds : List D} {d : D} {ρ : Sls} (hn : ds.length = n) (h : F ds = .ok d) : M.call n F ds ρ = .ok d ρ := by
  unfold M.call M.grd M.res
  rw [if_pos (decide_eq_true hn), h]
theorem cons_ok {fa : M D} {fs : M (List D)} {d : D} {ds : List D} {ρ ρ1 ρ2 : Sls} (h1 : fa ρ = .ok d ρ1) (h2 : fs ρ1 = .ok ds ρ2) : (fa.cons fs) ρ = .ok (d :: ds) ρ2 := by
  unfold M.cons
  rw [bind_okD h1, bind_okD h2]; rfl
/-- the inner loop's row of slots -/
def inS (n : Nat) (A : Tab) (w : List Nat) (r0 r : List Int) (i : Nat) (tt : Int) (s7 : Sl) : Sls := [.im (planD n A), .im (.str (wrd w)), .im (rowD r0), .ow (.lst (r.map D.int)), .im (.str (ltr i)), .im (.int i), .im (.int tt), s7]
theorem inner_eq (n : Nat) (A : Tab) (hn : n ≤ 6) (hA : okA A) (w : List Nat) (r0 r : List Int) (i : Nat) (hi : i < n) (hr : r.length = n) (tt : Int) (j : Nat) (hj : j < n) (s7 : Sl) :
    (((((M.var 7).two (M.var 5) gNeA).bind M.tb).bind fun x =>
      if x = true then
        ((M.var 6).two ((((M.var 0).cons ((M.var 4).cons (((M.ret (D.str (Str.ofString "abcdef"))).two (M.var 7) gIxA).cons (M.ret [])))).bind (M.call 3 F__law_c)).two (M.ixO 3 (M.var 7)) gMul) gAdd).bind (M.tgt (Tg.name 6))
      else M.nx) (inS n A w r0 r i tt (.im (.int j)))) = .ok .nx (inS n A w r0 r i (stepT A i r tt j) (.im (.int j))) := by
  by_cases h : j = i
  · subst h
    unfold stepT
    rw [if_pos rfl]
    simp [inS, ne_ii]
  · have h2 : ¬ (j : Int) = i := fun z => h (by omega)
    have c1 := law_c_eq n A hA i j (Ne.symm h)
    have a1 := at_row r j (by omega)
    have a2 : ∀ ρ, gIxA (.str (Str.ofString "abcdef")) (.int (j : Int)) ρ = .ok (.str (ltr j)) ρ := alpha_ix j (by omega)
    have sm := cf_small A i j
    have h3 : -18446744073709551616 < cf A i j := by omega
    have h4 : cf A i j < 18446744073709551616 := by omega
    unfold stepT
    rw [if_neg h]
    unfold inS
    refine (bind_okD (a := true) (ρ1 := inS n A w r0 r i tt (.im (.int j))) ?_).trans ?_
    · simp [inS, ne_ii, h2]
    · show (((M.var 6).two ((((M.var 0).cons ((M.var 4).cons (((M.ret (D.str (Str.ofString "abcdef"))).two (M.var 7) gIxA).cons (M.ret [])))).bind (M.call 3 F__law_c)).two (M.ixO 3 (M.var 7)) gMul) gAdd).bind (M.tgt (Tg.name 6))) (inS n A w r0 r i tt (.im (.int j))) = _
      have x1 : ((((M.var 0).cons ((M.var 4).cons (((M.ret (D.str (Str.ofString "abcdef"))).two (M.var 7) gIxA).cons (M.ret [])))).bind (M.call 3 F__law_c))) (inS n A w r0 r i tt (.im (.int j))) = .ok (.int (cf A i j)) (inS n A w r0 r i tt (.im (.int j))) := by
        have v0 : M.var 0 (inS n A w r0 r i tt (.im (.int j))) = .ok (planD n A) (inS n A w r0 r i tt (.im (.int j))) := rfl
        have v4 : M.var 4 (inS n A w r0 r i tt (.im (.int j))) = .ok (.str (ltr i)) (inS n A w r0 r i tt (.im (.int j))) := rfl
        have v7 : M.var 7 (inS n A w r0 r i tt (.im (.int j))) = .ok (.int j) (inS n A w r0 r i tt (.im (.int j))) := rfl
        exact (bind_okD (cons_ok v0 (cons_ok v4 (cons_ok ((two_okD rfl v7).trans (a2 _)) rfl)))).trans (call_ok rfl c1)
      have x2 : M.ixO 3 (M.var 7) (inS n A w r0 r i tt (.im (.int j))) = .ok (.int (r.getD j 0)) (inS n A w r0 r i tt (.im (.int j))) := ixO_ok (ds := r.map D.int) rfl rfl a1
      have x3 := (two_okD (g := gMul) x1 x2).trans (show gMul (.int (cf A i j)) (.int (r.getD j 0)) (inS n A w r0 r i tt (.im (.int j))) = .ok (.int (cf A i j * r.getD j 0)) (inS n A w r0 r i tt (.im (.int j))) by simp [h3, h4])
      refine (bind_okD (a := D.int (tt + cf A i j * r.getD j 0)) (ρ1 := inS n A w r0 r i tt (.im (.int j))) ?_).trans rfl
      exact (two_okD (g := gAdd) (a := D.int tt) (ρ1 := inS n A w r0 r i tt (.im (.int j))) rfl x3).trans rfl
theorem sent_eq (n : Nat) (A : Tab) (hn : n ≤ 6) (hA : okA A) (w : List Nat) (r : List Int) (hw : ∀ i ∈ w, i < n) (hl : w.length ≤ 1000) (hr : r.length = n) : F__law_sent [planD n A, .str (wrd w), rowD r] = .ok (rowD (sendW n A w r)) := by
  unfold F__law_sent b__law_sent
  dsimp only
  refine (congrArg resD (seq_nxD (ρ1 := [.im (planD n A), .im (.str (wrd w)), .im (rowD r), .ow (.lst (r.map D.int)), .un, .un, .un, .un]) rfl)).trans ?_
  have hm : ∀ i ∈ w.reverse, i < n := fun i hi => hw i (List.mem_reverse.mp hi)
  refine seq_foldI (fin := resD) (fun i => D.str (ltr i)) (fun (q : List Int) ρ => q.length = n ∧ ∃ a b d e, ρ = [.im (planD n A), .im (.str (wrd w)), .im (rowD r), .ow (.lst (q.map D.int)), a, b, d, e]) (fun q i => sendL n A i q) w.reverse r (ρ := [.im (planD n A), .im (.str (wrd w)), .im (rowD r), .ow (.lst (r.map D.int)), .un, .un, .un, .un]) ?_ ⟨hr, _, _, _, _, rfl⟩ (fun i hi q ρ ⟨hq, a, b, d, e, eρ⟩ => ?_) fun ρ' ⟨hq, a, b, d, e, eρ⟩ => ?_
  · have hz : lineS (wrd w) = true := by
      unfold lineS
      rw [wrd_len]
      exact decide_eq_true (by omega)
    refine (bind_okD (a := D.str (wrd w.reverse)) (ρ1 := [.im (planD n A), .im (.str (wrd w)), .im (rowD r), .ow (.lst (r.map D.int)), .un, .un, .un, .un]) ?_).trans ?_
    · refine (bind_okD (a := D.str (wrd w)) (ρ1 := [.im (planD n A), .im (.str (wrd w)), .im (rowD r), .ow (.lst (r.map D.int)), .un, .un, .un, .un]) rfl).trans ?_
      unfold gRev
      dsimp only
      rw [hz, wrd_rev]; rfl
    · simp [signs_wrd]
  · subst eρ
    have hi2 := hm i hi
    have hi6 : i < 6 := by omega
    obtain ⟨ρ', l1, s7, e7⟩ := loop_foldI (g := Tg.name 7) (body := ((((M.var 7).two (M.var 5) gNeA).bind M.tb).bind fun x =>
      if x = true then
        ((M.var 6).two ((((M.var 0).cons ((M.var 4).cons (((M.ret (D.str (Str.ofString "abcdef"))).two (M.var 7) gIxA).cons (M.ret [])))).bind (M.call 3 F__law_c)).two (M.ixO 3 (M.var 7)) gMul) gAdd).bind (M.tgt (Tg.name 6))
      else M.nx)) (fun (k : Nat) => D.int k) (fun tt ρ => ∃ s7, ρ = inS n A w r q i tt s7) (stepT A i q) (List.range n) 0 (inS n A w r q i 0 e) ⟨e, rfl⟩ (fun j hj tt ρ ⟨s7, e7⟩ => by
        subst e7
        exact ⟨inS n A w r q i tt (.im (.int j)), inS n A w r q i (stepT A i q tt j) (.im (.int j)), rfl, inner_eq n A hn hA w r q i hi2 hq tt j (List.mem_range.mp hj) .un, _, rfl⟩)
    subst e7
    refine ⟨[.im (planD n A), .im (.str (wrd w)), .im (rowD r), .ow (.lst (q.map D.int)), .im (.str (ltr i)), b, d, e], [.im (planD n A), .im (.str (wrd w)), .im (rowD r), .ow (.lst ((sendL n A i q).map D.int)), .im (.str (ltr i)), .im (.int i), .im (.int ((List.range n).foldl (stepT A i q) 0)), s7], rfl, ?_, by rw [sendL_len n A i q (by omega)]; exact hq, _, _, _, _, rfl⟩
    have st1 : (((M.ret (D.str (Str.ofString "abcdef"))).meth ((M.var 4).cons (M.ret [])) isS gIndex).bind (M.tgt (Tg.name 5))) [.im (planD n A), .im (.str (wrd w)), .im (rowD r), .ow (.lst (q.map D.int)), .im (.str (ltr i)), b, d, e] = .ok .nx [.im (planD n A), .im (.str (wrd w)), .im (rowD r), .ow (.lst (q.map D.int)), .im (.str (ltr i)), .im (.int i), d, e] := by
      refine (bind_okD (a := D.int i) (ρ1 := [.im (planD n A), .im (.str (wrd w)), .im (rowD r), .ow (.lst (q.map D.int)), .im (.str (ltr i)), b, d, e]) ?_).trans rfl
      unfold M.meth
      exact alpha_index i hi6 _
    refine (seq_nxD st1).trans ((seq_nxD (ρ1 := inS n A w r q i 0 e) rfl).trans ?_)
    have v0 : M.var 0 (inS n A w r q i 0 e) = .ok (planD n A) (inS n A w r q i 0 e) := rfl
    have rg : ((((M.var 0).two (M.ret (D.int 0)) gIxA).cons (M.ret [])).bind range1) (inS n A w r q i 0 e) = .ok ((List.range n).map fun (k : Nat) => D.int k) (inS n A w r q i 0 e) :=
      (bind_okD (cons_ok ((two_okD v0 (b := D.int 0) rfl).trans (plan_n n A _)) rfl)).trans (rng_eq n hn _)
    have pt : M.putO 3 ((M.var 6).two (M.ixO 3 (M.var 5)) DL.gSub) (M.var 5) (inS n A w r q i ((List.range n).foldl (stepT A i q) 0) s7) = .ok .nx [.im (planD n A), .im (.str (wrd w)), .im (rowD r), .ow (.lst ((sendL n A i q).map D.int)), .im (.str (ltr i)), .im (.int i), .im (.int ((List.range n).foldl (stepT A i q) 0)), s7] := by
      have x1 : M.ixO 3 (M.var 5) (inS n A w r q i ((List.range n).foldl (stepT A i q) 0) s7) = .ok (.int (q.getD i 0)) (inS n A w r q i ((List.range n).foldl (stepT A i q) 0) s7) := ixO_ok (ds := q.map D.int) rfl rfl (at_row q i (by omega))
      have x2 : ((M.var 6).two (M.ixO 3 (M.var 5)) DL.gSub) (inS n A w r q i ((List.range n).foldl (stepT A i q) 0) s7) = .ok (.int ((List.range n).foldl (stepT A i q) 0 - q.getD i 0)) (inS n A w r q i ((List.range n).foldl (stepT A i q) 0) s7) := (two_okD (a := D.int ((List.range n).foldl (stepT A i q) 0)) rfl x1).trans rfl
      have x3 : L2.ixN (q.map D.int).length (i : Int) = some i := by
        unfold L2.ixN
        rw [List.length_map, if_pos (by omega), if_pos (by omega), Int.toNat_natCast]
      refine (putO_ok (i := 3) (m := i) (fk := M.var 5) (ds := q.map D.int) (j := (i : Int)) x2 rfl rfl x3).trans ?_
      rw [tot_send n A i q hi2 hq, sendL_set n A i q (by omega), List.map_set]
      rfl
    exact (seq_nxD ((bind_okD rg).trans l1)).trans pt
  · subst eρ
    rfl
theorem lrows_eq (n : Nat) (A : Tab) (hn : n ≤ 6) (hA : okA A) (w : List Nat) (hw : ∀ i ∈ w, i < n) (hl : w.length ≤ 1000) : F__law_rows [planD n A, .str (wrd w)] = .ok (.tup ((List.range n).map fun i => rowD (sendW n A w (unit n i)))) := by
  unfold F__law_rows b__law_rows
  dsimp only
  have v0 : M.var 0 [.im (planD n A), .im (.str (wrd w)), .un] = .ok (planD n A) [.im (planD n A), .im (.str (wrd w)), .un] := rfl
  refine (congrArg resD (bind_okD (a := D.tup ((List.range n).map fun i => rowD (sendW n A w (unit n i)))) (ρ1 := [.im (planD n A), .im (.str (wrd w)), .un]) ?_)).trans rfl
  refine (bind_okD (a := [D.lst ((List.range n).map fun i => rowD (sendW n A w (unit n i)))]) (ρ1 := [.im (planD n A), .im (.str (wrd w)), .un]) ?_).trans rfl
  refine (bind_okD (a := D.lst ((List.range n).map fun i => rowD (sendW n A w (unit n i)))) (ρ1 := [.im (planD n A), .im (.str (wrd w)), .un]) ?_).trans rfl
  refine (bind_okD (a := (List.range n).map fun (k : Nat) => D.int k) (ρ1 := [.im (planD n A), .im (.str (wrd w)), .un]) ?_).trans ?_
  · exact (bind_okD (cons_ok ((two_okD v0 (b := D.int 0) rfl).trans (plan_n n A _)) rfl)).trans (rng_eq n hn _)
  refine comp_mapI _ (fun i => rowD (sendW n A w (unit n i))) _ (range_len n hn) fun i hi => ?_
  refine ⟨[.im (planD n A), .im (.str (wrd w)), .im (.int i)], _, [.im (planD n A), .im (.str (wrd w)), .im (.int i)], rfl, rfl, ?_, rfl⟩
  have u0 : M.var 0 [.im (planD n A), .im (.str (wrd w)), .im (.int i)] = .ok (planD n A) [.im (planD n A), .im (.str (wrd w)), .im (.int i)] := rfl
  have u1 : M.var 1 [.im (planD n A), .im (.str (wrd w)), .im (.int i)] = .ok (.str (wrd w)) [.im (planD n A), .im (.str (wrd w)), .im (.int i)] := rfl
  have u2 : M.var 2 [.im (planD n A), .im (.str (wrd w)), .im (.int i)] = .ok (.int i) [.im (planD n A), .im (.str (wrd w)), .im (.int i)] := rfl
  exact (bind_okD (cons_ok u0 (cons_ok u1 (cons_ok ((bind_okD (cons_ok u0 (cons_ok u2 rfl))).trans (call_ok rfl (lsingle_eq n A hn i))) rfl)))).trans (call_ok rfl (sent_eq n A hn hA w (unit n i) hw hl (unit_len n i)))

/-! K05_MC -/
abbrev Tub := Int × Int × Int
def tubD (x : Tub) : D := .lst [.int x.1, .int x.2.1, .int x.2.2]
theorem sip_ex (x : Tub) (top : Int) (h : 0 < top) (h2 : top.natAbs.log2 < 9000) : ∃ d y, O__law_sip (tubD x) [.int top] = .ok (.int d, tubD y) ∧ 0 ≤ d ∧ d < top := by
  obtain ⟨a, b, c⟩ := x
  by_cases ha : 0 < a
  · refine ⟨a % top, (a / top, b, c + 1), ?_, Int.emod_nonneg _ (by omega), Int.emod_lt_of_pos _ h⟩
    unfold O__law_sip b__law_sip tubD
    simp [ha, h, h2]
  · refine ⟨(b * 39373 + 1777 * (c + 1) + 47) % 2147483563 / 64 % top, (a, (b * 39373 + 1777 * (c + 1) + 47) % 2147483563, c + 1), ?_, Int.emod_nonneg _ (by omega), Int.emod_lt_of_pos _ h⟩
    have l64 : Nat.log2 64 < 9000 := by decide
    unfold O__law_sip b__law_sip tubD
    simp [ha, h, h2, l64]
theorem pick_ex (x : Tub) (menu : List D) (h : menu ≠ []) (hl : menu.length ≤ 100) : ∃ m y, O__law_pick (tubD x) [.lst menu] = .ok (m, tubD y) ∧ m ∈ menu := by
  have h0 : 0 < menu.length := List.length_pos_iff.mpr h
  have hlog : ((menu.length : Int)).natAbs.log2 < 9000 := by
    rw [Int.natAbs_natCast]
    have := Nat.log2_le_self menu.length
    omega
  obtain ⟨d, y, e, d0, d1⟩ := sip_ex x (menu.length : Int) (by omega) hlog
  have hd : d.toNat < menu.length := by omega
  have ea : L2.atI menu d = some menu[d.toNat] := by
    unfold L2.atI L2.ixN
    rw [if_pos d0, if_pos d1]
    exact List.getElem?_eq_getElem hd
  refine ⟨menu[d.toNat], y, ?_, List.getElem_mem hd⟩
  unfold O__law_pick b__law_pick
  unfold tubD at e ⊢
  simp [lenD, e, d0, d1, hd]

/-! K05_MD -/
theorem callO_ok {n : Nat} {f : D → List D → Res (D × D)} {fs : M (List D)} {ρ : Sls} {t ds : List D} {d t' : D} (h0 : ρ[0]? = some (.bo (.lst t))) (h1 : fs ρ = .ok ds ρ) (hn : ds.length + 1 = n) (hf : f (.lst t) ds = .ok (d, t')) : M.callO 0 n f fs ρ = .ok d (ρ.set 0 (.bo t')) := by
  have e : ownL ρ[0]? = some t := by rw [h0]; rfl
  unfold M.callO
  rw [e]
  dsimp only
  rw [bind_okD h1, e]
  dsimp only
  rw [if_pos hn, hf, h0]
  rfl
def wS (x : Tub) (n : Nat) (A : Tab) (m : Int) (s : Sl) : Sls := [.bo (tubD x), .im (planD n A), .im (.int m), s]
theorem alpha_ixd (d : Int) (n : Nat) (h0 : 0 ≤ d) (h1 : d < n) (hn : n ≤ 6) (ρ : Sls) : gIxA (.str (Str.ofString "abcdef")) (.int d) ρ = .ok (.str (ltr d.toNat)) ρ := by
  have e : d = ((d.toNat : Nat) : Int) := by omega
  have := alpha_ix d.toNat (by omega) ρ
  rw [← e] at this
  exact this
theorem joinL_nil : ∀ l : List (List Nat), TL.joinL [] l = l.flatten
  | [] => rfl
  | [p] => by simp [TL.joinL]
  | p :: q :: r => by
    have := joinL_nil (q :: r)
    simp only [TL.joinL, List.nil_append, this, List.flatten_cons]
theorem join_wrd (w : List Nat) : Txt.join ⟨#[]⟩ (w.map ltr) = wrd w := by
  have h : TL.tl (Txt.join ⟨#[]⟩ (w.map ltr)) = TL.tl (wrd w) := by
    refine ((congrArg TL.tl (TL.join_eq _ _)).trans (TL.tl_join _ _)).trans ?_
    show TL.joinL [] ((w.map ltr).map TL.tl) = _
    rw [joinL_nil, List.map_map]
    show _ = (w.map (97 + ·))
    induction w with
    | nil => rfl
    | cons a w ih => rw [List.map_cons, List.flatten_cons, ih]; rfl
  have h2 : (Txt.join ⟨#[]⟩ (w.map ltr)).cps.toList = (wrd w).cps.toList := h
  have h3 := Array.toList_inj.mp h2
  cases hx : Txt.join ⟨#[]⟩ (w.map ltr)
  rw [hx] at h3
  exact congrArg Str.mk h3
theorem txts_letters : ∀ es : List D, (∀ e ∈ es, ∃ i, i < 6 ∧ e = .str (ltr i)) → True := fun _ _ => trivial
theorem letters_of (n : Nat) : ∀ es : List D, (∀ e ∈ es, ∃ i, i < n ∧ e = .str (ltr i)) → ∃ w : List Nat, es = w.map (fun i => D.str (ltr i)) ∧ ∀ i ∈ w, i < n
  | [], _ => ⟨[], rfl, fun _ h => by cases h⟩
  | e :: es, h => by
    obtain ⟨i, hi, rfl⟩ := h e (List.mem_cons_self ..)
    obtain ⟨w, rfl, hw⟩ := letters_of n es fun x hx => h x (List.mem_cons_of_mem _ hx)
    exact ⟨i :: w, rfl, fun j hj => by
      rcases List.mem_cons.mp hj with rfl | hj
      · exact hi
      · exact hw j hj⟩
theorem txts_ltr : ∀ w : List Nat, txts (w.map fun i => D.str (ltr i)) = some (w.map ltr)
  | [] => rfl
  | i :: w => by
    show (txts (w.map fun i => D.str (ltr i))).map (ltr i :: ·) = _
    rw [txts_ltr w]; rfl
theorem len_ltr : ∀ w : List Nat, ((w.map ltr).map (·.length)).sum = w.length
  | [] => rfl
  | i :: w => by
    rw [List.map_cons, List.map_cons, List.sum_cons, len_ltr w, List.length_cons]
    show 1 + w.length = _
    omega

/-! K05_ME -/
theorem rng_int (m : Int) (h0 : 0 ≤ m) (h1 : m ≤ 1000) (ρ : Sls) : range1 [.int m] ρ = .ok ((List.range m.toNat).map fun (k : Nat) => D.int k) ρ := by
  have h : big m = true := by
    unfold big
    simp
    omega
  unfold range1
  dsimp only
  rw [h]
  have e : rangeD 0 m.toNat = (List.range m.toNat).map fun (k : Nat) => D.int k := by
    unfold rangeD
    simp only [Int.zero_add]
  show Ret.ok (rangeD 0 m.toNat) ρ = _
  rw [e]
theorem log_small (m : Int) (h1 : 0 < m) (h2 : m ≤ 1000) : m.natAbs.log2 < 9000 := by
  have := Nat.log2_le_self m.natAbs
  omega
theorem word_ex (x : Tub) (n : Nat) (A : Tab) (m : Int) (hn0 : 0 < n) (hn : n ≤ 6) (h0 : 0 ≤ m) (h1 : m ≤ 900) : ∃ w y, O__law_word (tubD x) [planD n A, .int m] = .ok (.str (wrd w), tubD y) ∧ (∀ i ∈ w, i < n) ∧ (w.length : Int) ≤ m := by
  obtain ⟨d, y, e, d0, d1⟩ := sip_ex x (m + 1) (by omega) (log_small _ (by omega) (by omega))
  have rg : (((M.callO 0 2 O__law_sip (((M.var 2).two (M.ret (D.int 1)) gAdd).cons (M.ret []))).cons (M.ret [])).bind range1) (wS x n A m .un) = .ok ((List.range d.toNat).map fun (k : Nat) => D.int k) (wS y n A m .un) := by
    have a1 : (((M.var 2).two (M.ret (D.int 1)) gAdd).cons (M.ret [])) (wS x n A m .un) = .ok [.int (m + 1)] (wS x n A m .un) := rfl
    have a2 : M.callO 0 2 O__law_sip (((M.var 2).two (M.ret (D.int 1)) gAdd).cons (M.ret [])) (wS x n A m .un) = .ok (.int d) (wS y n A m .un) := (callO_ok (t := [.int x.1, .int x.2.1, .int x.2.2]) rfl a1 rfl e).trans rfl
    exact (bind_okD (cons_ok a2 rfl)).trans (rng_int d d0 (by omega) _)
  have cm := comp_inv (vs := List.map (fun x => x.snd) [((Str.ofString "k"), 3)]) (g := Tg.name 3) (tt := M.ret true) (fe := (M.ret (D.str (Str.ofString "abcdef"))).two (M.callO 0 2 O__law_sip (((M.var 1).two (M.ret (D.int 0)) gIxA).cons (M.ret []))) gIxA) (fun ρ => ∃ y, ρ = wS y n A m .un) (fun e => ∃ i, i < n ∧ e = .str (ltr i)) ((List.range d.toNat).map fun (k : Nat) => D.int k) (wS y n A m .un) (by rw [List.length_map, List.length_range]; omega) ⟨y, rfl⟩ (fun k hk ρ ⟨z, ez⟩ => by
    subst ez
    obtain ⟨c, z2, e2, c0, c1⟩ := sip_ex z (n : Int) (by omega) (log_small _ (by omega) (by omega))
    have v1 : M.var 1 (wS z n A m (.im k)) = .ok (planD n A) (wS z n A m (.im k)) := rfl
    have a1 : (((M.var 1).two (M.ret (D.int 0)) gIxA).cons (M.ret [])) (wS z n A m (.im k)) = .ok [.int n] (wS z n A m (.im k)) := cons_ok ((two_okD v1 (b := D.int 0) rfl).trans (plan_n n A _)) rfl
    have a2 : M.callO 0 2 O__law_sip (((M.var 1).two (M.ret (D.int 0)) gIxA).cons (M.ret [])) (wS z n A m (.im k)) = .ok (.int c) (wS z2 n A m (.im k)) := (callO_ok (t := [.int z.1, .int z.2.1, .int z.2.2]) rfl a1 rfl e2).trans rfl
    exact ⟨wS z n A m (.im k), wS z n A m (.im k), wS z2 n A m (.im k), .str (ltr c.toNat), rfl, rfl, (two_okD rfl a2).trans (alpha_ixd c n c0 c1 hn _), ⟨c.toNat, by omega, rfl⟩, z2, rfl⟩)
  obtain ⟨es, ρ', c1, c2, c3, y2, e2⟩ := cm
  subst e2
  obtain ⟨w, rfl, hw⟩ := letters_of n es c3
  have hl : w.length = d.toNat := by
    rw [List.length_map, List.length_map, List.length_range] at c2; exact c2
  refine ⟨w, y2, ?_, hw, by rw [hl]; omega⟩
  unfold O__law_word b__law_word
  dsimp only
  have jn : gJoin (.str (Str.ofString "")) [.lst (w.map fun i => D.str (ltr i))] (wS y2 n A m .un) = .ok (.str (wrd w)) (wS y2 n A m .un) := by
    show joinS (Str.ofString "") (w.map fun i => D.str (ltr i)) _ = _
    unfold joinS
    rw [txts_ltr]
    dsimp only
    have hs : ((w.map ltr).map (·.length)).sum + (w.map ltr).length * (Str.ofString "").length ≤ 16777216 := by
      rw [len_ltr]
      have : (Str.ofString "").length = 0 := rfl
      rw [this]
      omega
    rw [decide_eq_true hs]
    show Ret.ok (D.str (Txt.join (Str.ofString "") (w.map ltr))) _ = _
    have : Str.ofString "" = ⟨#[]⟩ := by rfl
    rw [this, join_wrd]
  have all : ((M.ret (D.str (Str.ofString ""))).meth ((((((M.callO 0 2 O__law_sip (((M.var 2).two (M.ret (D.int 1)) gAdd).cons (M.ret []))).cons (M.ret [])).bind range1).bind (M.comp (List.map (fun x => x.snd) [((Str.ofString "k"), 3)]) (Tg.name 3) (M.ret true) ((M.ret (D.str (Str.ofString "abcdef"))).two (M.callO 0 2 O__law_sip (((M.var 1).two (M.ret (D.int 0)) gIxA).cons (M.ret []))) gIxA)))).cons (M.ret [])) isS gJoin) (wS x n A m .un) = .ok (.str (wrd w)) (wS y2 n A m .un) := by
    unfold M.meth
    exact (bind_okD (cons_ok ((bind_okD rg).trans c1) rfl)).trans jn
  exact (congrArg DL.resB (bind_okD all)).trans rfl

/-! K05_MF -/
def befT (s t : Nat × Nat × Int) : Prop := s.1 < t.1 ∨ (s.1 = t.1 ∧ s.2.1 < t.2.1)
structure OkT (n : Nat) (A : Tab) : Prop where
  v : ∀ t ∈ A, t.1 < t.2.1 ∧ t.2.1 < n ∧ (t.2.2 = 3 ∨ t.2.2 = 4 ∨ t.2.2 = 6 ∨ t.2.2 = 0)
  asc : A.Pairwise befT
  len : A.length ≤ 60
theorem OkT.okA {n : Nat} {A : Tab} (h : OkT n A) : okA A := fun i j => by
  unfold lk
  cases e : A.find? (fun t => t.1 == i && t.2.1 == j) with
  | none => exact .inl rfl
  | some t =>
    have hm := List.mem_of_find?_eq_some e
    rcases (h.v t hm).2.2 with q | q | q | q
    · exact .inr (.inl q)
    · exact .inr (.inr (.inl q))
    · exact .inr (.inr (.inr (.inl q)))
    · exact .inr (.inr (.inr (.inr q)))
def kS (t : Nat × Nat × Int) : Str := ltr t.1 ++ ltr t.2.1
theorem bef_le {s t : Nat × Nat × Int} (h : befT s t) : leS (kS s) (kS t) := by
  unfold leS
  show ltCps [97 + t.1, 97 + t.2.1] [97 + s.1, 97 + s.2.1] = false
  unfold ltCps
  rcases h with h | ⟨h1, h2⟩
  · have a1 : ¬ 97 + t.1 < 97 + s.1 := by omega
    have a2 : ¬ 97 + t.1 = 97 + s.1 := by omega
    simp [a1, a2]
    try omega
  · have a2 : ¬ 97 + t.2.1 < 97 + s.2.1 := by omega
    have a3 : ¬ 97 + t.2.1 = 97 + s.2.1 := by omega
    simp [h1, ltCps, a2, a3]
    try omega
theorem keysS_map (A : Tab) : keysS (A.map fun t => key t) = some (A.map kS) := by
  induction A with
  | nil => rfl
  | cons t A ih => 
    rw [List.map_cons, List.map_cons]
    show (keysS (A.map fun t => key t)).map (kS t :: ·) = _
    rw [ih]; rfl
theorem sorted_eq {n : Nat} {A : Tab} (h : OkT n A) (ρ : Sls) : sortD (dctD A) ρ = .ok (.lst (A.map fun t => .str (kS t))) ρ := by
  have e1 : ((A.map fun t => (key t, D.int t.2.2)).map (·.1)) = A.map fun t => key t := by rw [List.map_map]; rfl
  unfold sortD dctD
  dsimp only
  rw [e1, keysS_map]
  dsimp only
  have hl : (A.map kS).length < 64 := by rw [List.length_map]; have := h.len; omega
  rw [decide_eq_true hl]
  have hs : A.map kS = sortS (A.map kS) := sortS_uniq (.refl _) (List.Pairwise.map _ (fun a b q => bef_le q) h.asc)
  show Ret.ok (D.lst ((sortS (A.map kS)).map D.str)) ρ = _
  rw [← hs, List.map_map]; rfl

/-! K05_MG -/
theorem key_nodup {n : Nat} {A : Tab} (h : OkT n A) : (A.map fun t => key t).Nodup := by
  refine List.Pairwise.map _ (fun a b (q : befT a b) z => ?_) h.asc
  have z2 := (key_eq a.1 a.2.1 b.1 b.2.1).mp (Sum.inr.inj z)
  rcases q with q | ⟨_, q⟩ <;> omega
theorem lang_eq {n : Nat} {A : Tab} (h : OkT n A) : F__law_angles [planD n A] = .ok (angD A) := by
  unfold F__law_angles b__law_angles
  dsimp only
  have v0 : M.var 0 [.im (planD n A), .un] = .ok (planD n A) [.im (planD n A), .un] := rfl
  have g1' : ∀ ρ, gIxA (planD n A) (.int 1) ρ = .ok (dctD A) ρ := fun ρ => rfl
  refine (congrArg resD (bind_okD (a := angD A) (ρ1 := [.im (planD n A), .un]) ?_)).trans rfl
  refine (bind_okD (a := [D.lst (A.map ang)]) (ρ1 := [.im (planD n A), .un]) ?_).trans rfl
  refine (bind_okD (a := D.lst (A.map ang)) (ρ1 := [.im (planD n A), .un]) ?_).trans rfl
  refine (bind_okD (a := A.map fun t => D.str (kS t)) (ρ1 := [.im (planD n A), .un]) ?_).trans ?_
  · exact (bind_okD ((bind_okD (cons_ok ((two_okD v0 (b := D.int 1) rfl).trans (g1' _)) rfl)).trans (sorted_eq h _))).trans rfl
  refine comp_mapI _ ang _ (by have := h.len; omega) fun t ht => ?_
  refine ⟨[.im (planD n A), .im (.str (kS t))], _, [.im (planD n A), .im (.str (kS t))], rfl, rfl, ?_, rfl⟩
  have w0 : M.var 0 [.im (planD n A), .im (.str (kS t))] = .ok (planD n A) [.im (planD n A), .im (.str (kS t))] := rfl
  have w1 : M.var 1 [.im (planD n A), .im (.str (kS t))] = .ok (.str (kS t)) [.im (planD n A), .im (.str (kS t))] := rfl
  have b0 : ∀ ρ, gIxA (.str (kS t)) (.int 0) ρ = .ok (.str (ltr t.1)) ρ := fun ρ => rfl
  have b1 : ∀ ρ, gIxA (.str (kS t)) (.int 1) ρ = .ok (.str (ltr t.2.1)) ρ := fun ρ => rfl
  have b2 : ∀ ρ, gIxA (dctD A) (.str (kS t)) ρ = .ok (.int t.2.2) ρ := fun ρ => by
    have e := valD_map (fun t : Nat × Nat × Int => key t) (fun t => D.int t.2.2) A (key_nodup h) t ht
    have e2 : valD (A.map fun t => (key t, D.int t.2.2)) (.inr (kS t)) = some (.int t.2.2) := e
    unfold dctD
    simp [e2]
  refine (bind_okD (cons_ok ((two_okD w1 (b := D.int 0) rfl).trans (b0 _)) (cons_ok ((two_okD w1 (b := D.int 1) rfl).trans (b1 _)) (cons_ok ((two_okD ((two_okD w0 (b := D.int 1) rfl).trans (g1' _)) w1).trans (b2 _)) rfl)))).trans rfl

/-! K05_MH -/
theorem is_letter_eq (n i : Nat) (hi : i < n) (hn : n ≤ 6) : F_is_letter [.str (lts n), .str (ltr i)] = .ok (.bl true) := by
  unfold F_is_letter b_is_letter
  have e1 : lineS (ltr i) = true := rfl
  have e2 : (ltr i).length = 1 := rfl
  have e3 : ∀ ρ, gIn (.str (ltr i)) (.str (lts n)) ρ = .ok (.bl true) ρ := fun ρ => in_letters n i hi hn ρ
  simp [isi_str, truD, lenD, e1, e2, e3, eq_ii]
theorem is_triple_eq (n : Nat) (hn : n ≤ 6) (t : Nat × Nat × Int) (h1 : t.1 < t.2.1) (h2 : t.2.1 < n) (h3 : t.2.2 = 3 ∨ t.2.2 = 4 ∨ t.2.2 = 6 ∨ t.2.2 = 0) : F_is_triple [.str (lts n), ang t] = .ok (.bl true) := by
  obtain ⟨i, j, v⟩ := t
  have h1 : i < j := h1
  have h2 : j < n := h2
  have h3 : v = 3 ∨ v = 4 ∨ v = 6 ∨ v = 0 := h3
  have l1 := is_letter_eq n i (by omega) hn
  have l2 := is_letter_eq n j h2 hn
  have hl : (ltr i).cps < (ltr j).cps := (ltr_ltA i j).mpr h1
  have hv : ∀ ρ, gIn (.int v) K_TOLD_NUMBERS ρ = .ok (.bl true) ρ := fun ρ => by
    rcases h3 with rfl | rfl | rfl | rfl <;> kernel_rfl
  have hi : ∀ ds ρ, isiD ins exc kt (.tup ds) (.ty "tuple") ρ = .ok (.bl true) ρ := isi_tup
  unfold F_is_triple b_is_triple ang
  simp [hi, truD, lenD, ne_ii, l1, l2, is_integer_eq, hl, hv]
def lastD : Option (Nat × Nat × Int) → D
  | none => .tup [.str "", .str ""]
  | some t => .tup [.str (ltr t.1), .str (ltr t.2.1)]
theorem cut2 (t : Nat × Nat × Int) (ρ : Sls) : gSl (ang t) none (some 2) ρ = .ok (.tup [.str (ltr t.1), .str (ltr t.2.1)]) ρ := rfl
theorem le_last (s : Option (Nat × Nat × Int)) (t : Nat × Nat × Int) (h : ∀ q, s = some q → befT q t) (ρ : Sls) : gLeA (.tup [.str (ltr t.1), .str (ltr t.2.1)]) (lastD s) ρ = .ok (.bl false) ρ := by
  have key : leSs [ltr t.1, ltr t.2.1] (match s with | none => ["", ""] | some q => [ltr q.1, ltr q.2.1]) = false := by
    cases s with
    | none =>
      have hne : ¬ ltr t.1 = ("" : Str) := fun z => by
        have := congrArg (fun x => x.cps.size) z
        cases this
      show (if ltr t.1 = "" then _ else !decide (("" : Str).cps.toList < (ltr t.1).cps.toList)) = false
      rw [if_neg hne]
      have : ("" : Str).cps.toList < (ltr t.1).cps.toList := by
        show ([] : List Nat) < [97 + t.1]
        exact List.nil_lt_cons ..
      rw [decide_eq_true this]; rfl
    | some q =>
      have hb := h q rfl
      show (if ltr t.1 = ltr q.1 then (if ltr t.2.1 = ltr q.2.1 then leSs [] [] else !decide ((ltr q.2.1).cps.toList < (ltr t.2.1).cps.toList)) else !decide ((ltr q.1).cps.toList < (ltr t.1).cps.toList)) = false
      by_cases h1 : q.1 = t.1
      · have h2 : q.2.1 < t.2.1 := by rcases hb with z | ⟨_, z⟩ <;> omega
        rw [if_pos (by rw [h1]), if_neg (fun z => by have := ltr_inj z; omega), decide_eq_true ((ltr_lt _ _).mpr h2)]; rfl
      · have h2 : q.1 < t.1 := by rcases hb with z | ⟨z, _⟩ <;> omega
        rw [if_neg (fun z => h1 (ltr_inj z).symm), decide_eq_true ((ltr_lt _ _).mpr h2)]; rfl
  cases s with
  | none =>
    unfold gLeA M.alt
    show (match gLeT (.tup [.str (ltr t.1), .str (ltr t.2.1)]) (.tup [.str "", .str ""]) ρ with | r => r) = _
    show Ret.ok (D.bl (leSs [ltr t.1, ltr t.2.1] ["", ""])) ρ = _
    rw [show leSs [ltr t.1, ltr t.2.1] ["", ""] = false from key]
  | some q =>
    unfold gLeA M.alt
    show Ret.ok (D.bl (leSs [ltr t.1, ltr t.2.1] [ltr q.1, ltr q.2.1])) ρ = _
    rw [show leSs [ltr t.1, ltr t.2.1] [ltr q.1, ltr q.2.1] = false from key]

/-! K05_MI -/
def idx : Nat → Tab → List D
  | _, [] => []
  | k, t :: l => .tup [.int (k : Nat), ang t] :: idx (k + 1) l
theorem idx_get : ∀ (l : Tab) (k i : Nat), (idx k l)[i]? = (l[i]?).map fun t => D.tup [.int ((k + i : Nat) : Nat), ang t]
  | [], _, _ => by simp [idx]
  | t :: l, k, 0 => by simp [idx]
  | t :: l, k, i + 1 => by
    have := idx_get l (k + 1) i
    simp only [idx, List.getElem?_cons_succ]
    rw [this]
    congr 1
    funext t
    rw [Nat.add_right_comm, Nat.add_assoc]
theorem pairs_idx (A : Tab) : pairsD (A.map ang) = idx 0 A := by
  apply List.ext_getElem?
  intro i
  rw [idx_get]
  unfold pairsD
  rw [List.getElem?_map, List.length_map]
  by_cases h : i < A.length
  · rw [List.getElem?_range h, List.getElem?_eq_getElem h]
    simp only [Option.map_some, Nat.zero_add]
    rw [List.getD_eq_getElem?_getD, List.getElem?_map, List.getElem?_eq_getElem h]; rfl
  · rw [List.getElem?_eq_none (by rw [List.length_range]; omega), List.getElem?_eq_none (by omega)]; rfl
theorem loop_step {g : Tg} {body : M Out} {d : D} {ds : List D} {ρ ρ1 ρ2 : Sls} (h : g d ρ = some ρ1) (h2 : body ρ1 = .ok .nx ρ2) : M.loop g body (d :: ds) ρ = M.loop g body ds ρ2 := by
  show (match g d ρ with | none => Ret.no | some ρ1 => _) = _
  rw [h]; dsimp only; rw [h2]
theorem fw_loop (n : Nat) (hn : n ≤ 6) (A0 : Tab) : ∀ (l : Tab) (k : Nat) (s : Option (Nat × Nat × Int)) (a b : Sl), (∀ t ∈ l, t.1 < t.2.1 ∧ t.2.1 < n ∧ (t.2.2 = 3 ∨ t.2.2 = 4 ∨ t.2.2 = 6 ∨ t.2.2 = 0)) → l.Pairwise befT → (∀ q, s = some q → ∀ t ∈ l, befT q t) →
    ∃ ρ', M.loop (Tg.tup 2 (Tgs.cons (Tg.name 3) (Tgs.cons (Tg.name 4) Tgs.nil)))
      ((((((((M.var 0).cons ((M.var 4).cons (M.ret []))).bind (M.call 2 F_is_triple)).bind truD).bind fun x => M.ret !x).or ((((M.var 4).sl (M.ret none) (M.ret (D.int 2)).asI).two (M.var 2) gLeA).bind M.tb)).bind
        fun x => if x = true then (M.var 3).bind fun d => M.ret (Out.rt d) else M.nx).seq (((M.var 4).sl (M.ret none) (M.ret (D.int 2)).asI).bind (M.tgt (Tg.name 2)))) (idx k l) [.im (.str (lts n)), .im (angD A0), .im (lastD s), a, b] = .ok .nx ρ'
  | [], k, s, a, b, _, _, _ => ⟨_, rfl⟩
  | t :: l, k, s, a, b, ho, hp, hs => by
    obtain ⟨o1, o2, o3⟩ := ho t (List.mem_cons_self ..)
    obtain ⟨ρ', e⟩ := fw_loop n hn A0 l (k + 1) (some t) (.im (.int k)) (.im (ang t)) (fun q hq => ho q (List.mem_cons_of_mem _ hq)) (List.pairwise_cons.mp hp).2 (fun q hq u hu => by cases hq; exact (List.pairwise_cons.mp hp).1 u hu)
    refine ⟨ρ', ?_⟩
    have P : ∃ ρ : Sls, ρ = [.im (.str (lts n)), .im (angD A0), .im (lastD s), .im (.int k), .im (ang t)] := ⟨_, rfl⟩
    obtain ⟨ρ, hρ⟩ := P
    have v0 : M.var 0 ρ = .ok (.str (lts n)) ρ := by rw [hρ]; rfl
    have v2 : M.var 2 ρ = .ok (lastD s) ρ := by rw [hρ]; rfl
    have v4 : M.var 4 ρ = .ok (ang t) ρ := by rw [hρ]; rfl
    have a1 : ((((M.var 0).cons ((M.var 4).cons (M.ret []))).bind (M.call 2 F_is_triple)).bind truD) ρ = .ok true ρ :=
      (bind_okD (a := D.bl true) (ρ1 := ρ) ((bind_okD (cons_ok v0 (cons_ok v4 rfl))).trans (call_ok rfl (is_triple_eq n hn t o1 o2 o3)))).trans rfl
    have a2 : (((((M.var 0).cons ((M.var 4).cons (M.ret []))).bind (M.call 2 F_is_triple)).bind truD).bind fun x => M.ret !x) ρ = .ok false ρ := (bind_okD a1).trans rfl
    have s2 : ((M.var 4).sl (M.ret none) (M.ret (D.int 2)).asI) ρ = .ok (.tup [.str (ltr t.1), .str (ltr t.2.1)]) ρ :=
      (bind_okD v4).trans ((bind_okD (a := none) rfl).trans ((bind_okD (a := some (2 : Int)) (ρ1 := ρ) rfl).trans (cut2 t ρ)))
    have a3 : ((((M.var 4).sl (M.ret none) (M.ret (D.int 2)).asI).two (M.var 2) gLeA).bind M.tb) ρ = .ok false ρ :=
      (bind_okD (a := D.bl false) (ρ1 := ρ) ((two_okD s2 v2).trans (le_last s t (fun q hq => hs q hq t (List.mem_cons_self ..)) ρ))).trans rfl
    have a4 : ((((((M.var 0).cons ((M.var 4).cons (M.ret []))).bind (M.call 2 F_is_triple)).bind truD).bind fun x => M.ret !x).or ((((M.var 4).sl (M.ret none) (M.ret (D.int 2)).asI).two (M.var 2) gLeA).bind M.tb)) ρ = .ok false ρ := (bind_okD a2).trans a3
    have st : (((M.var 4).sl (M.ret none) (M.ret (D.int 2)).asI).bind (M.tgt (Tg.name 2))) ρ = .ok .nx [.im (.str (lts n)), .im (angD A0), .im (lastD (some t)), .im (.int k), .im (ang t)] := (bind_okD s2).trans (by rw [hρ]; rfl)
    have b := (seq_nxD (k := ((M.var 4).sl (M.ret none) (M.ret (D.int 2)).asI).bind (M.tgt (Tg.name 2))) (if_noD (x := (M.var 3).bind fun d => M.ret (Out.rt d)) (y := M.nx) a4)).trans st
    rw [hρ] at b
    exact (loop_step (by simp [ang]) b).trans e
theorem first_wrong_eq (n : Nat) (A : Tab) (hn : n ≤ 6) (h : OkT n A) : F_first_wrong [.str (lts n), angD A] = .ok .non := by
  unfold F_first_wrong b_first_wrong
  dsimp only
  refine (congrArg resD (seq_nxD (ρ1 := [.im (.str (lts n)), .im (angD A), .im (lastD none), .un, .un]) rfl)).trans ?_
  obtain ⟨ρ', e⟩ := fw_loop n hn A A 0 none .un .un h.v h.asc (fun q hq => by cases hq)
  have v1 : M.var 1 [.im (.str (lts n)), .im (angD A), .im (lastD none), .un, .un] = .ok (angD A) [.im (.str (lts n)), .im (angD A), .im (lastD none), .un, .un] := rfl
  have en : (((M.var 1).cons (M.ret [])).bind enumA) [.im (.str (lts n)), .im (angD A), .im (lastD none), .un, .un] = .ok (idx 0 A) [.im (.str (lts n)), .im (angD A), .im (lastD none), .un, .un] := by
    refine (bind_okD (cons_ok v1 rfl)).trans ?_
    show Ret.ok (pairsD (A.map ang)) _ = _
    rw [pairs_idx]
  exact (congrArg resD (seq_nxD ((bind_okD en).trans e))).trans rfl

/-! K05_MJ -/
def vS (v : Int) : Str := if v = 3 then "3" else if v = 4 then "4" else if v = 6 then "6" else "0"
def tS (t : Nat × Nat × Int) : Str := ltr t.1 ++ ltr t.2.1 ++ vS t.2.2
theorem js_eq (t : Nat × Nat × Int) (h3 : t.2.2 = 3 ∨ t.2.2 = 4 ∨ t.2.2 = 6 ∨ t.2.2 = 0) (a b : Sl) : M.js [(M.var 2).bind fmtD, (M.var 3).bind fmtD, (M.var 4).bind fmtD] Str.empty [a, b, .im (.str (ltr t.1)), .im (.str (ltr t.2.1)), .im (.int t.2.2)] = .ok (.str (tS t)) [a, b, .im (.str (ltr t.1)), .im (.str (ltr t.2.1)), .im (.int t.2.2)] := by
  obtain ⟨i, j, v⟩ := t
  have h3 : v = 3 ∨ v = 4 ∨ v = 6 ∨ v = 0 := h3
  rcases h3 with rfl | rfl | rfl | rfl
  · kernel_rfl
  · kernel_rfl
  · kernel_rfl
  · kernel_rfl
theorem txts_map (f : Nat × Nat × Int → Str) : ∀ A : Tab, txts (A.map fun t => D.str (f t)) = some (A.map f)
  | [] => rfl
  | t :: A => by
    show (txts (A.map fun t => D.str (f t))).map (f t :: ·) = _
    rw [txts_map f A]; rfl
theorem len_tS (t : Nat × Nat × Int) : (tS t).length = 3 := by
  unfold tS vS
  split
  · rfl
  · split
    · rfl
    · split <;> rfl
theorem sum_tS : ∀ A : Tab, ((A.map tS).map (·.length)).sum = 3 * A.length
  | [] => rfl
  | t :: A => by
    rw [List.map_cons, List.map_cons, List.sum_cons, sum_tS A, len_tS, List.length_cons]
    omega
theorem text_eq (n : Nat) (A : Tab) (hn : n ≤ 6) (h : OkT n A) : ∃ t, F_text_of [.str (lts n), angD A] = .ok (.str t) := by
  refine ⟨Txt.join " " (lts n :: A.map tS), ?_⟩
  unfold F_text_of b_text_of
  dsimp only
  have P : ∃ ρ : Sls, ρ = [.im (.str (lts n)), .im (angD A), .un, .un, .un] := ⟨_, rfl⟩
  obtain ⟨ρ, hρ⟩ := P
  have hs : slots 5 (List.map Sl.im [.str (lts n), angD A]) = ρ := by rw [hρ]; rfl
  rw [hs]
  have v0 : M.var 0 ρ = .ok (.str (lts n)) ρ := by rw [hρ]; rfl
  have v1 : M.var 1 ρ = .ok (angD A) ρ := by rw [hρ]; rfl
  have cm : (M.comp (List.map (fun x => x.snd) [((Str.ofString "x"), 2), ((Str.ofString "y"), 3), ((Str.ofString "number"), 4)]) (Tg.tup 3 (Tgs.cons (Tg.name 2) (Tgs.cons (Tg.name 3) (Tgs.cons (Tg.name 4) Tgs.nil)))) (M.ret true) (M.js [(M.var 2).bind fmtD, (M.var 3).bind fmtD, (M.var 4).bind fmtD] Str.empty)) (A.map ang) ρ = .ok (.lst (A.map fun t => D.str (tS t))) ρ := by
    refine comp_mapI _ (fun t => D.str (tS t)) _ (by have := h.len; omega) fun t ht => ?_
    refine ⟨[.im (.str (lts n)), .im (angD A), .im (.str (ltr t.1)), .im (.str (ltr t.2.1)), .im (.int t.2.2)], _, [.im (.str (lts n)), .im (angD A), .im (.str (ltr t.1)), .im (.str (ltr t.2.1)), .im (.int t.2.2)], by rw [hρ]; rfl, rfl, js_eq t (h.v t ht).2.2 _ _, by rw [hρ]; rfl⟩
  have a1 : (((M.var 0).cons (M.ret [])).disp D.lst) ρ = .ok (.lst [.str (lts n)]) ρ := (bind_okD (cons_ok v0 rfl)).trans rfl
  have it : ((M.var 1).bind itemsK) ρ = .ok (A.map ang) ρ := (bind_okD v1).trans rfl
  have a2 := (two_okD (g := gAdd) a1 ((bind_okD it).trans cm)).trans (show gAdd (.lst [.str (lts n)]) (.lst (A.map fun t => D.str (tS t))) ρ = .ok (.lst (D.str (lts n) :: A.map fun t => D.str (tS t))) ρ by
    have := h.len
    simp
    rw [if_pos (by omega)]; rfl)
  have jn : gJoin (.str (Str.ofString " ")) [.lst (D.str (lts n) :: A.map fun t => D.str (tS t))] ρ = .ok (.str (Txt.join " " (lts n :: A.map tS))) ρ := by
    show joinS (Str.ofString " ") (D.str (lts n) :: A.map fun t => D.str (tS t)) _ = _
    have e : txts (D.str (lts n) :: A.map fun t => D.str (tS t)) = some (lts n :: A.map tS) := by
      show (txts (A.map fun t => D.str (tS t))).map (lts n :: ·) = _
      rw [txts_map]; rfl
    unfold joinS
    rw [e]
    dsimp only
    have hz : ((lts n :: A.map tS).map (·.length)).sum + (lts n :: A.map tS).length * (Str.ofString " ").length ≤ 16777216 := by
      rw [List.map_cons, List.sum_cons, sum_tS, lts_len, List.length_cons, List.length_map]
      have e1 : (Str.ofString " ").length = 1 := rfl
      have := h.len
      rw [e1]
      omega
    rw [decide_eq_true hz]; rfl
  refine (congrArg resD (bind_okD (a := D.str (Txt.join " " (lts n :: A.map tS))) (ρ1 := ρ) ?_)).trans rfl
  unfold M.meth
  exact (bind_okD (cons_ok a2 rfl)).trans jn

/-! K05_MK -/
theorem between_eq (n : Nat) (h0 : 0 < n) (hn : n ≤ 6) : F_is_integer_between [.int n, .int 1, .int 6] = .ok (.bl true) := by
  unfold F_is_integer_between b_is_integer_between
  have h1 : (1 : Int) ≤ n := by omega
  have h2 : (n : Int) ≤ 6 := by omega
  simp [is_integer_eq, truD, DL.M.chain, h1, h2]
theorem alpha_cut (n : Nat) (hn : n ≤ 6) (ρ : Sls) : gSl (.str "abcdef") none (some (n : Int)) ρ = .ok (.str (lts n)) ρ := by
  match n, hn with
  | 0, _ => kernel_rfl
  | 1, _ => kernel_rfl
  | 2, _ => kernel_rfl
  | 3, _ => kernel_rfl
  | 4, _ => kernel_rfl
  | 5, _ => kernel_rfl
  | 6, _ => kernel_rfl
theorem init_eq (n : Nat) (A : Tab) (h0 : 0 < n) (hn : n ≤ 6) (h : OkT n A) : ∃ t, O_Mirrors___init__ (.ob "Mirrors" []) [.int n, angD A] = .ok (.non, mir n A t) := by
  obtain ⟨t, ht⟩ := text_eq n A hn h
  refine ⟨t, ?_⟩
  unfold O_Mirrors___init__ b_Mirrors___init__
  dsimp only
  have S : ∀ (fs : List (Str × D)) (s : Sl), ∃ ρ : Sls, ρ = [.bo (.ob "Mirrors" fs), .im (.int n), .im (angD A), s] := fun fs s => ⟨_, rfl⟩
  have r1 : ∀ (fs : List (Str × D)) (s : Sl), M.var 1 [.bo (.ob "Mirrors" fs), .im (.int n), .im (angD A), s] = .ok (.int n) [.bo (.ob "Mirrors" fs), .im (.int n), .im (angD A), s] := fun _ _ => rfl
  have r2 : ∀ (fs : List (Str × D)) (s : Sl), M.var 2 [.bo (.ob "Mirrors" fs), .im (.int n), .im (angD A), s] = .ok (angD A) [.bo (.ob "Mirrors" fs), .im (.int n), .im (angD A), s] := fun _ _ => rfl
  have al : ∀ (fs : List (Str × D)) (s : Sl), ((M.ret K_ALPHABET).sl (M.ret none) (M.var 1).asI) [.bo (.ob "Mirrors" fs), .im (.int n), .im (angD A), s] = .ok (.str (lts n)) [.bo (.ob "Mirrors" fs), .im (.int n), .im (angD A), s] := fun fs s =>
    (bind_okD (a := K_ALPHABET) rfl).trans ((bind_okD (a := none) rfl).trans ((bind_okD (a := some (n : Int)) ((bind_okD (r1 fs s)).trans rfl)).trans (alpha_cut n hn _)))
  have s1 := (bind_okD (k := fun x => M.ret !x) ((bind_okD (k := truD) ((bind_okD (cons_ok (r1 [] .un) (ds := [.int 1, .int 6]) rfl)).trans (call_ok rfl (between_eq n h0 hn)))).trans (show truD (.bl true) _ = .ok true _ from rfl))).trans (show M.ret (!true) _ = .ok false _ from rfl)
  refine (congrArg DL.resB (seq_nxD (if_noD s1))).trans ?_
  have s2 := (bind_okD (k := fun x => M.ret !x) ((bind_okD (k := truD) ((bind_okD (k := g2 (isiD ins exc kt)) (cons_ok (r2 [] .un) (ds := [.ty "tuple"]) rfl)).trans (show g2 (isiD ins exc kt) [angD A, .ty "tuple"] _ = .ok (.bl true) _ from isi_tup (A.map ang) _))).trans (show truD (.bl true) _ = .ok true _ from rfl))).trans (show M.ret (!true) _ = .ok false _ from rfl)
  refine (congrArg DL.resB (seq_nxD (if_noD s2))).trans ?_
  have s3 : ((((M.ret K_ALPHABET).sl (M.ret none) (M.var 1).asI).cons ((M.var 2).cons (M.ret []))).bind (M.call 2 F_first_wrong)).bind (M.tgt (Tg.name 3)) = ((((M.ret K_ALPHABET).sl (M.ret none) (M.var 1).asI).cons ((M.var 2).cons (M.ret []))).bind (M.call 2 F_first_wrong)).bind (M.tgt (Tg.name 3)) := rfl
  have s4 : (((((M.ret K_ALPHABET).sl (M.ret none) (M.var 1).asI).cons ((M.var 2).cons (M.ret []))).bind (M.call 2 F_first_wrong)).bind (M.tgt (Tg.name 3))) [.bo (.ob "Mirrors" []), .im (.int n), .im (angD A), .un] = .ok .nx [.bo (.ob "Mirrors" []), .im (.int n), .im (angD A), .im .non] :=
    (bind_okD ((bind_okD (cons_ok (al [] .un) (cons_ok (r2 [] .un) rfl))).trans (call_ok rfl (first_wrong_eq n A hn h)))).trans rfl
  refine (congrArg DL.resB (seq_nxD s4)).trans ?_
  refine (congrArg DL.resB (seq_nxD (ρ1 := [.bo (.ob "Mirrors" []), .im (.int n), .im (angD A), .im .non]) rfl)).trans ?_
  have s5 : M.setF (Str.ofString "Mirrors") 0 (Str.ofString "_letters") ((M.ret K_ALPHABET).sl (M.ret none) (M.var 1).asI) [.bo (.ob "Mirrors" []), .im (.int n), .im (angD A), .im .non] = .ok .nx [.bo (.ob "Mirrors" [("_letters", .str (lts n))]), .im (.int n), .im (angD A), .im .non] := by
    unfold M.setF
    exact (bind_okD (al [] (.im .non))).trans rfl
  refine (congrArg DL.resB (seq_nxD s5)).trans ?_
  have s6 : M.setF (Str.ofString "Mirrors") 0 (Str.ofString "_angles") (M.var 2) [.bo (.ob "Mirrors" [("_letters", .str (lts n))]), .im (.int n), .im (angD A), .im .non] = .ok .nx [.bo (.ob "Mirrors" [("_letters", .str (lts n)), ("_angles", angD A)]), .im (.int n), .im (angD A), .im .non] := by
    unfold M.setF
    exact (bind_okD (r2 _ (.im .non))).trans rfl
  refine (congrArg DL.resB (seq_nxD s6)).trans ?_
  have s7 : M.fldO (Str.ofString "Mirrors") 0 (Str.ofString "_letters") [.bo (.ob "Mirrors" [("_letters", .str (lts n)), ("_angles", angD A)]), .im (.int n), .im (angD A), .im .non] = .ok (.str (lts n)) [.bo (.ob "Mirrors" [("_letters", .str (lts n)), ("_angles", angD A)]), .im (.int n), .im (angD A), .im .non] := rfl
  have s8 : M.setF (Str.ofString "Mirrors") 0 (Str.ofString "_text") (((M.fldO (Str.ofString "Mirrors") 0 (Str.ofString "_letters")).cons ((M.var 2).cons (M.ret []))).bind (M.call 2 F_text_of)) [.bo (.ob "Mirrors" [("_letters", .str (lts n)), ("_angles", angD A)]), .im (.int n), .im (angD A), .im .non] = .ok .nx [.bo (mir n A t), .im (.int n), .im (angD A), .im .non] := by
    unfold M.setF
    exact (bind_okD ((bind_okD (cons_ok s7 (cons_ok (r2 _ (.im .non)) rfl))).trans (call_ok rfl ht))).trans rfl
  rw [s8]
  rfl
theorem made_eq (n : Nat) (A : Tab) (h0 : 0 < n) (hn : n ≤ 6) (h : OkT n A) : ∃ t, F__law_made [planD n A] = .ok (mir n A t) := by
  obtain ⟨t, ht⟩ := init_eq n A h0 hn h
  refine ⟨t, ?_⟩
  unfold F__law_made b__law_made
  dsimp only
  have v0 : M.var 0 [.im (planD n A)] = .ok (planD n A) [.im (planD n A)] := rfl
  have a1 : (((M.var 0).two (M.ret (D.int 0)) gIxA).cons ((((M.var 0).cons (M.ret [])).bind (M.call 1 F__law_angles)).cons (M.ret []))) [.im (planD n A)] = .ok [.int n, angD A] [.im (planD n A)] :=
    cons_ok ((two_okD v0 (b := D.int 0) rfl).trans (plan_n n A _)) (cons_ok ((bind_okD (cons_ok v0 rfl)).trans (call_ok rfl (lang_eq h))) rfl)
  refine (congrArg resD (bind_okD (a := mir n A t) (ρ1 := [.im (planD n A)]) ?_)).trans rfl
  unfold M.mk
  refine (bind_okD a1).trans ?_
  show (match O_Mirrors___init__ (.ob "Mirrors" []) [.int n, angD A] with | .ok (.non, .ob k gs) => _ | .er k fs => _ | _ => _) = _
  rw [ht]
  rfl

/-! K05_ML -/
theorem loop_cnt {g : Tg} {body : M Out} (δ : Nat → D) (P : Nat → Sls → Prop) : ∀ (m k : Nat) (ρ : Sls), P k ρ → (∀ i, k ≤ i → i < k + m → ∀ ρ, P i ρ → ∃ ρ1 ρ2, g (δ i) ρ = some ρ1 ∧ body ρ1 = .ok .nx ρ2 ∧ P (i + 1) ρ2) → ∃ ρ', M.loop g body ((List.range' k m).map δ) ρ = .ok .nx ρ' ∧ P (k + m) ρ'
  | 0, k, ρ, h0, _ => ⟨ρ, rfl, h0⟩
  | m + 1, k, ρ, h0, h => by
    obtain ⟨ρ1, ρ2, e1, e2, h2⟩ := h k (Nat.le_refl _) (by omega) ρ h0
    obtain ⟨ρ', e3, h3⟩ := loop_cnt δ P m (k + 1) ρ2 h2 fun i h1 h4 => h i (by omega) (by omega)
    refine ⟨ρ', ?_, by rw [show k + (m + 1) = k + 1 + m by omega]; exact h3⟩
    rw [List.range'_succ, List.map_cons]
    exact (loop_step e1 e2).trans e3
theorem rng2_eq (i n : Nat) (hi : i ≤ 100) (hn : n ≤ 100) (ρ : Sls) : range2 [.int ((i : Nat) : Int), .int n] ρ = .ok ((List.range' i (n - i)).map fun (k : Nat) => D.int k) ρ := by
  have h1 : big (i : Int) = true := by
    unfold big; simp; omega
  have h2 : big (n : Int) = true := by
    unfold big; simp; omega
  have e : rangeD (i : Int) ((n : Int) - i).toNat = (List.range' i (n - i)).map fun (k : Nat) => D.int k := by
    unfold rangeD
    have e1 : ((n : Int) - i).toNat = n - i := by omega
    rw [e1, List.range'_eq_map_range, List.map_map]
    refine List.map_congr_left fun k _ => ?_
    show D.int _ = D.int _
    congr 1
  unfold range2
  dsimp only
  rw [h1, h2]
  show Ret.ok (rangeD (i : Int) ((n : Int) - i).toNat) ρ = _
  rw [e]
theorem putK_ok {i : Nat} {fv fk : M D} {ρ : Sls} {ds : List (Key × D)} {kd v : D} {kk : Key} (hv : fv ρ = .ok v ρ) (h0 : ownK ρ[i]? = some ds) (h1 : fk ρ = .ok kd ρ) (h2 : kd.key = some kk) (hl : ds.length < 16777216) : M.putK i fv fk ρ = .ok .nx (ρ.set i (reSl (.dct (putD ds kk v)) ρ[i]?)) := by
  unfold M.putK
  rw [bind_okD hv]
  rw [h0]
  dsimp only
  rw [bind_okD h1, h0, h2]
  dsimp only
  rw [if_pos hl]
def pS (x : Tub) (n : Nat) (A : Tab) (a b d : Sl) : Sls := [.bo (tubD x), .im (.int 6), .im (.int n), .ow (dctD A), a, b, d]
def menu : List D := [.int 2, .int 2, .int 3, .int 3, .int 3, .int 4, .int 6, .int 0]
def inP (n i : Nat) (j : Nat) (ρ : Sls) : Prop := ∃ y A b d, ρ = pS y n A (.im (.int i)) b d ∧ OkT n A ∧ (∀ t ∈ A, t.1 < i ∨ (t.1 = i ∧ t.2.1 < j)) ∧ A.length ≤ 6 * i + j
theorem in_step (n i j : Nat) (hn : n ≤ 6) (hi : i < j) (hj : j < n) (ρ : Sls) (h : inP n i j ρ) : ∃ ρ1 ρ2, (Tg.name 5) (.int (j : Nat)) ρ = some ρ1 ∧
    ((((M.callO 0 2 O__law_pick ((((M.ret (D.int 2)).cons ((M.ret (D.int 2)).cons ((M.ret (D.int 3)).cons ((M.ret (D.int 3)).cons ((M.ret (D.int 3)).cons ((M.ret (D.int 4)).cons ((M.ret (D.int 6)).cons ((M.ret (D.int 0)).cons (M.ret []))))))))).disp D.lst).cons (M.ret []))).bind (M.tgt (Tg.name 6))).seq
      ((((M.var 6).two (M.ret (D.int 2)) gNeA).bind M.tb).bind fun x => if x = true then M.putK 3 (M.var 6) (((M.ret (D.str (Str.ofString "abcdef"))).two (M.var 4) gIxA).two ((M.ret (D.str (Str.ofString "abcdef"))).two (M.var 5) gIxA) gAdd) else M.nx)) ρ1) = .ok .nx ρ2 ∧ inP n i (j + 1) ρ2 := by
  obtain ⟨y, A, b, d, rfl, ok, bef, hl⟩ := h
  obtain ⟨m, z, e, hm⟩ := pick_ex y menu (by decide) (by decide)
  have hm2 : ∃ v : Int, m = .int v ∧ (v = 2 ∨ v = 3 ∨ v = 4 ∨ v = 6 ∨ v = 0) := by
    unfold menu at hm
    simp only [List.mem_cons, List.not_mem_nil, or_false] at hm
    rcases hm with rfl | rfl | rfl | rfl | rfl | rfl | rfl | rfl
    · exact ⟨_, rfl, by omega⟩
    · exact ⟨_, rfl, by omega⟩
    · exact ⟨_, rfl, by omega⟩
    · exact ⟨_, rfl, by omega⟩
    · exact ⟨_, rfl, by omega⟩
    · exact ⟨_, rfl, by omega⟩
    · exact ⟨_, rfl, by omega⟩
    · exact ⟨_, rfl, by omega⟩
  obtain ⟨v, rfl, hv⟩ := hm2
  have a1 : ((((M.ret (D.int 2)).cons ((M.ret (D.int 2)).cons ((M.ret (D.int 3)).cons ((M.ret (D.int 3)).cons ((M.ret (D.int 3)).cons ((M.ret (D.int 4)).cons ((M.ret (D.int 6)).cons ((M.ret (D.int 0)).cons (M.ret []))))))))).disp D.lst).cons (M.ret [])) (pS y n A (.im (.int i)) (.im (.int j)) d) = .ok [.lst menu] (pS y n A (.im (.int i)) (.im (.int j)) d) := rfl
  have a2 : M.callO 0 2 O__law_pick ((((M.ret (D.int 2)).cons ((M.ret (D.int 2)).cons ((M.ret (D.int 3)).cons ((M.ret (D.int 3)).cons ((M.ret (D.int 3)).cons ((M.ret (D.int 4)).cons ((M.ret (D.int 6)).cons ((M.ret (D.int 0)).cons (M.ret []))))))))).disp D.lst).cons (M.ret [])) (pS y n A (.im (.int i)) (.im (.int j)) d) = .ok (.int v) (pS z n A (.im (.int i)) (.im (.int j)) d) := (callO_ok (t := [.int y.1, .int y.2.1, .int y.2.2]) rfl a1 rfl e).trans rfl
  have s1 := (bind_okD (k := M.tgt (Tg.name 6)) a2).trans (show M.tgt (Tg.name 6) (.int v) (pS z n A (.im (.int i)) (.im (.int j)) d) = .ok .nx (pS z n A (.im (.int i)) (.im (.int j)) (.im (.int v))) from rfl)
  have v6 : M.var 6 (pS z n A (.im (.int i)) (.im (.int j)) (.im (.int v))) = .ok (.int v) (pS z n A (.im (.int i)) (.im (.int j)) (.im (.int v))) := rfl
  have v4 : M.var 4 (pS z n A (.im (.int i)) (.im (.int j)) (.im (.int v))) = .ok (.int i) (pS z n A (.im (.int i)) (.im (.int j)) (.im (.int v))) := rfl
  have v5 : M.var 5 (pS z n A (.im (.int i)) (.im (.int j)) (.im (.int v))) = .ok (.int j) (pS z n A (.im (.int i)) (.im (.int j)) (.im (.int v))) := rfl
  have tst : (((M.var 6).two (M.ret (D.int 2)) gNeA).bind M.tb) (pS z n A (.im (.int i)) (.im (.int j)) (.im (.int v))) = .ok (!decide (v = 2)) (pS z n A (.im (.int i)) (.im (.int j)) (.im (.int v))) := by
    refine (bind_okD (a := D.bl (!decide (v = 2))) (ρ1 := pS z n A (.im (.int i)) (.im (.int j)) (.im (.int v))) ((two_okD v6 (b := D.int 2) rfl).trans ?_)).trans rfl
    simp [ne_ii]
  by_cases h2 : v = 2
  · refine ⟨pS y n A (.im (.int i)) (.im (.int j)) d, pS z n A (.im (.int i)) (.im (.int j)) (.im (.int v)), rfl, ?_, z, A, _, _, rfl, ok, fun t ht => by rcases bef t ht with q | ⟨q1, q2⟩ <;> omega, by omega⟩
    refine (seq_nxD s1).trans (if_noD (tst.trans ?_))
    rw [decide_eq_true h2]; rfl
  · have hk : (((M.ret (D.str (Str.ofString "abcdef"))).two (M.var 4) gIxA).two ((M.ret (D.str (Str.ofString "abcdef"))).two (M.var 5) gIxA) gAdd) (pS z n A (.im (.int i)) (.im (.int j)) (.im (.int v))) = .ok (.str (ltr i ++ ltr j)) (pS z n A (.im (.int i)) (.im (.int j)) (.im (.int v))) := by
      refine (two_okD (a := D.str (ltr i)) (b := D.str (ltr j)) ((two_okD rfl v4).trans (alpha_ix i (by omega) _)) ((two_okD rfl v5).trans (alpha_ix j (by omega) _))).trans ?_
      have hl : (ltr i).length + (ltr j).length ≤ 16777216 := Nat.le_of_ble_eq_true rfl
      simp [hl]
    have hnew : (.inr (ltr i ++ ltr j) : Key) ∉ (A.map fun t => (key t, D.int t.2.2)).map (·.1) := fun q => by
      rw [List.map_map] at q
      obtain ⟨t, ht, et⟩ := List.mem_map.mp q
      have e2 := (key_eq t.1 t.2.1 i j).mp (Sum.inr.inj et)
      rcases bef t ht with z | ⟨_, z⟩ <;> omega
    have hp : M.putK 3 (M.var 6) (((M.ret (D.str (Str.ofString "abcdef"))).two (M.var 4) gIxA).two ((M.ret (D.str (Str.ofString "abcdef"))).two (M.var 5) gIxA) gAdd) (pS z n A (.im (.int i)) (.im (.int j)) (.im (.int v))) = .ok .nx (pS z n (A ++ [(i, j, v)]) (.im (.int i)) (.im (.int j)) (.im (.int v))) := by
      refine (putK_ok (ds := A.map fun t => (key t, D.int t.2.2)) v6 rfl hk rfl (by rw [List.length_map]; omega)).trans ?_
      rw [putD_new hnew]
      have e3 : (A.map fun t => (key t, D.int t.2.2)) ++ [((.inr (ltr i ++ ltr j) : Key), D.int v)] = (A ++ [(i, j, v)]).map fun t => (key t, D.int t.2.2) := by
        rw [List.map_append]; rfl
      rw [e3]
      rfl
    refine ⟨pS y n A (.im (.int i)) (.im (.int j)) d, pS z n (A ++ [(i, j, v)]) (.im (.int i)) (.im (.int j)) (.im (.int v)), rfl, ?_, z, A ++ [(i, j, v)], _, _, rfl, ⟨fun t ht => ?_, ?_, ?_⟩, fun t ht => ?_, ?_⟩
    · refine (seq_nxD s1).trans ((bind_okD tst).trans ?_)
      rw [decide_eq_false h2]
      exact hp
    · rcases List.mem_append.mp ht with q | q
      · exact ok.v t q
      · rw [List.mem_singleton.mp q]
        exact ⟨hi, hj, by show v = 3 ∨ v = 4 ∨ v = 6 ∨ v = 0; omega⟩
    · refine List.pairwise_append.mpr ⟨ok.asc, List.pairwise_singleton .., fun a ha b hb => ?_⟩
      rw [List.mem_singleton.mp hb]
      exact bef a ha
    · rw [List.length_append, List.length_singleton]; omega
    · rcases List.mem_append.mp ht with q | q
      · rcases bef t q with w | ⟨w, w2⟩
        · exact .inl w
        · exact .inr ⟨w, by omega⟩
      · rw [List.mem_singleton.mp q]
        exact .inr ⟨rfl, Nat.lt_succ_self j⟩
    · rw [List.length_append, List.length_singleton]; omega
theorem okT_nil (n : Nat) : OkT n [] := ⟨fun t ht => (by cases ht), List.Pairwise.nil, Nat.zero_le _⟩
theorem plan_ex (x : Tub) : ∃ n A y, O__law_plan (tubD x) [.int 6] = .ok (planD n A, tubD y) ∧ 0 < n ∧ n ≤ 6 ∧ OkT n A := by
  obtain ⟨d, y, e, d0, d1⟩ := sip_ex x 6 (by decide) (by decide)
  have hn : d.toNat + 1 ≤ 6 := by omega
  have P0 : ∃ n : Nat, n = d.toNat + 1 := ⟨_, rfl⟩
  obtain ⟨n, en⟩ := P0
  have out := loop_cnt (g := Tg.name 4) (body := (((((M.var 4).two (M.ret (D.int 1)) gAdd).cons ((M.var 2).cons (M.ret []))).bind range2).bind
      (M.loop (Tg.name 5) (((M.callO 0 2 O__law_pick ((((M.ret (D.int 2)).cons ((M.ret (D.int 2)).cons ((M.ret (D.int 3)).cons ((M.ret (D.int 3)).cons ((M.ret (D.int 3)).cons ((M.ret (D.int 4)).cons ((M.ret (D.int 6)).cons ((M.ret (D.int 0)).cons (M.ret []))))))))).disp D.lst).cons (M.ret []))).bind (M.tgt (Tg.name 6))).seq
      ((((M.var 6).two (M.ret (D.int 2)) gNeA).bind M.tb).bind fun x => if x = true then M.putK 3 (M.var 6) (((M.ret (D.str (Str.ofString "abcdef"))).two (M.var 4) gIxA).two ((M.ret (D.str (Str.ofString "abcdef"))).two (M.var 5) gIxA) gAdd) else M.nx)))))
    (fun (k : Nat) => D.int k) (fun i ρ => ∃ y A a b d, ρ = pS y n A a b d ∧ OkT n A ∧ (∀ t ∈ A, t.1 < i) ∧ A.length ≤ 6 * i) n 0 (pS y n [] .un .un .un) ⟨y, [], _, _, _, rfl, okT_nil n, fun t ht => (by cases ht), Nat.zero_le _⟩ (fun i _ hi ρ ⟨y, A, a, b, d, eρ, ok, bef, hl⟩ => by
      subst eρ
      have rg : (((((M.var 4).two (M.ret (D.int 1)) gAdd).cons ((M.var 2).cons (M.ret []))).bind range2)) (pS y n A (.im (.int i)) b d) = .ok ((List.range' (i + 1) (n - (i + 1))).map fun (k : Nat) => D.int k) (pS y n A (.im (.int i)) b d) := by
        have v4 : M.var 4 (pS y n A (.im (.int i)) b d) = .ok (.int i) (pS y n A (.im (.int i)) b d) := rfl
        have v2 : M.var 2 (pS y n A (.im (.int i)) b d) = .ok (.int n) (pS y n A (.im (.int i)) b d) := rfl
        exact (bind_okD (cons_ok ((two_okD v4 (b := D.int 1) rfl).trans (show gAdd (.int i) (.int 1) (pS y n A (.im (.int i)) b d) = .ok (.int ((i + 1 : Nat) : Int)) _ from rfl)) (cons_ok v2 rfl))).trans (rng2_eq (i + 1) n (by omega) (by omega) _)
      obtain ⟨ρ', e1, y2, A2, b2, d2, eρ', ok2, bef2, hl2⟩ := loop_cnt (fun (k : Nat) => D.int k) (inP n i) (n - (i + 1)) (i + 1) (pS y n A (.im (.int i)) b d) ⟨y, A, b, d, rfl, ok, fun t ht => .inl (bef t ht), by omega⟩ (fun j h1 h2 ρ hp => in_step n i j (by omega) (by omega) (by omega) ρ hp)
      subst eρ'
      exact ⟨pS y n A (.im (.int i)) b d, _, rfl, (bind_okD rg).trans e1, y2, A2, _, b2, d2, rfl, ok2, fun t ht => by rcases bef2 t ht with q | ⟨q, _⟩ <;> omega, by omega⟩)
  obtain ⟨ρ', e1, z, A, a, b, d', eρ, ok, _, _⟩ := out
  subst eρ
  refine ⟨n, A, z, ?_, by omega, by omega, ok⟩
  unfold O__law_plan b__law_plan
  dsimp only
  have a1 : M.callO 0 2 O__law_sip ((M.var 1).cons (M.ret [])) [.bo (tubD x), .im (.int 6), .un, .un, .un, .un, .un] = .ok (.int d) [.bo (tubD y), .im (.int 6), .un, .un, .un, .un, .un] := (callO_ok (n := 2) (fs := (M.var 1).cons (M.ret [])) (ρ := [.bo (tubD x), .im (.int 6), .un, .un, .un, .un, .un]) (t := [.int x.1, .int x.2.1, .int x.2.2]) (ds := [.int 6]) rfl rfl rfl e).trans rfl
  have hd : (1 : Int) + d = n := by omega
  have s1 := (bind_okD (k := fun d ρ => Ret.ok Out.nx ((List.set ρ 2 (Sl.im d)).set 3 (Sl.ow (D.dct [])))) ((two_okD (g := gAdd) (a := D.int 1) rfl a1).trans (show gAdd (.int 1) (.int d) [.bo (tubD y), .im (.int 6), .un, .un, .un, .un, .un] = .ok (.int ((1 : Int) + d)) [.bo (tubD y), .im (.int 6), .un, .un, .un, .un, .un] from rfl))).trans (show Ret.ok Out.nx (([Sl.bo (tubD y), .im (.int 6), .un, .un, .un, .un, .un].set 2 (Sl.im (.int ((1 : Int) + d)))).set 3 (Sl.ow (D.dct []))) = .ok .nx (pS y n [] .un .un .un) by rw [hd]; rfl)
  refine (congrArg DL.resB (seq_nxD s1)).trans ?_
  have v2 : M.var 2 (pS y n [] .un .un .un) = .ok (.int n) (pS y n [] .un .un .un) := rfl
  have rg : (((M.var 2).cons (M.ret [])).bind range1) (pS y n [] .un .un .un) = .ok ((List.range' 0 n).map fun (k : Nat) => D.int k) (pS y n [] .un .un .un) := by
    rw [← List.range_eq_range']
    exact (bind_okD (cons_ok v2 rfl)).trans (rng_eq n (by omega) _)
  refine (congrArg DL.resB (seq_nxD ((bind_okD rg).trans e1))).trans ?_
  rfl

/-! K05_MM -/
def tS0 (ns : List Int) (turn : Nat) (a b d : Sl) : Sls := [.im (.rol (ns.map .int)), .im (.int turn), a, b, d]
theorem seqN_ok {m : M Out} {k : M (List D)} {ρ ρ1 : Sls} (h : m ρ = .ok .nx ρ1) : M.seqN m k ρ = k ρ1 := by
  unfold M.seqN; rw [h]
theorem entry_ex (ns : List Int) (turn : Nat) : ∃ en : Int, ((((M.var 1).two (((M.var 0).cons (M.ret [])).bind (g1 lenD)) gLt).bind M.tb).bind fun x =>
      if x = true then (((M.var 0).two (M.var 1) gIxA).cons (M.ret [])).bind (g1 DL.intD) else ((M.ret (D.int 83)).two (M.var 1) gMul).two (M.ret (D.int 37)) gAdd) (tS0 ns turn .un .un .un) = .ok (.int en) (tS0 ns turn .un .un .un) := by
  have v0 : M.var 0 (tS0 ns turn .un .un .un) = .ok (.rol (ns.map .int)) (tS0 ns turn .un .un .un) := rfl
  have v1 : M.var 1 (tS0 ns turn .un .un .un) = .ok (.int turn) (tS0 ns turn .un .un .un) := rfl
  have t1 : ((((M.var 1).two (((M.var 0).cons (M.ret [])).bind (g1 lenD)) gLt).bind M.tb)) (tS0 ns turn .un .un .un) = .ok (decide ((turn : Int) < (ns.length : Nat))) (tS0 ns turn .un .un .un) := by
    refine (bind_okD (a := D.bl (decide ((turn : Int) < (ns.length : Nat)))) (ρ1 := tS0 ns turn .un .un .un) ?_).trans rfl
    refine (two_okD v1 (b := D.int (ns.length : Nat)) (ρ2 := tS0 ns turn .un .un .un) ((bind_okD (cons_ok v0 rfl)).trans ?_)).trans rfl
    show Ret.ok (D.int ((ns.map D.int).length : Nat)) _ = _
    rw [List.length_map]
  by_cases h : (turn : Int) < (ns.length : Nat)
  · refine ⟨ns.getD turn 0, (bind_okD t1).trans ?_⟩
    rw [decide_eq_true h, if_pos rfl]
    have e : gIxA (.rol (ns.map .int)) (.int (turn : Int)) (tS0 ns turn .un .un .un) = .ok (.int (ns.getD turn 0)) (tS0 ns turn .un .un .un) := by
      have e2 : gIx (.rol (ns.map .int)) (.int (turn : Int)) (tS0 ns turn .un .un .un) = .ok (.int (ns.getD turn 0)) (tS0 ns turn .un .un .un) := by
        unfold gIx
        dsimp only
        rw [at_row ns turn (by omega)]; rfl
      unfold gIxA M.alt
      rw [e2]
    exact (bind_okD (cons_ok ((two_okD v0 v1).trans e) rfl)).trans rfl
  · refine ⟨83 * turn + 37, (bind_okD t1).trans ?_⟩
    rw [decide_eq_false h, if_neg Bool.false_ne_true]
    exact (two_okD ((two_okD (a := D.int 83) rfl v1).trans (show gMul (.int 83) (.int turn) (tS0 ns turn .un .un .un) = .ok (.int (83 * turn)) _ by simp)) (b := D.int 37) rfl).trans rfl
theorem tub_ex (ns : List Int) (turn : Nat) : ∃ x : Tub, V__law_tub [.rol (ns.map .int), .int turn] = .ok [.int x.1, .int x.2.1, .int x.2.2] := by
  obtain ⟨en, he⟩ := entry_ex ns turn
  have s1 := (bind_okD (k := M.tgt (Tg.name 2)) he).trans (show M.tgt (Tg.name 2) (.int en) (tS0 ns turn .un .un .un) = .ok .nx (tS0 ns turn (.im (.int en)) .un .un) from rfl)
  have s2 : ((((M.ret (D.int 70001)).two ((M.ret (D.int 1019)).two (M.var 1) gMul) gAdd).bind (M.tgt (Tg.name 3)))) (tS0 ns turn (.im (.int en)) .un .un) = .ok .nx (tS0 ns turn (.im (.int en)) (.im (.int (70001 + 1019 * turn))) .un) := by
    simp [tS0]
  obtain ⟨ρ', e3, z, d, eρ⟩ := loop_foldI (g := Tg.name 4) (body := ((((((((M.var 3).two (M.ret (D.int 39373)) gMul).two ((((M.var 4).cons (M.ret [])).bind (g1 DL.intD)).two (M.ret (D.int 999883)) gMod) gAdd).two (M.var 1) gAdd).cons (M.ret [])).bind (g1 DL.intD)).two (M.ret (D.int 2147483563)) gMod).bind (M.tgt (Tg.name 3)))) (fun i : Int => D.int i) (fun (_ : Unit) ρ => ∃ z d, ρ = tS0 ns turn (.im (.int en)) (.im (.int z)) d) (fun s _ => s) (ns.take 8) () (tS0 ns turn (.im (.int en)) (.im (.int (70001 + 1019 * turn))) .un) ⟨_, _, rfl⟩ (fun i _ s ρ ⟨z, d, e⟩ => by
    subst e
    refine ⟨tS0 ns turn (.im (.int en)) (.im (.int z)) (.im (.int i)), tS0 ns turn (.im (.int en)) (.im (.int ((z * 39373 + i % 999883 + turn) % 2147483563))) (.im (.int i)), rfl, ?_, _, _, rfl⟩
    simp [tS0])
  subst eρ
  have it : (((M.var 0).sl (M.ret none) (M.ret (D.int 8)).asI).bind itemsK) (tS0 ns turn (.im (.int en)) (.im (.int (70001 + 1019 * turn))) .un) = .ok ((ns.take 8).map fun i : Int => D.int i) (tS0 ns turn (.im (.int en)) (.im (.int (70001 + 1019 * turn))) .un) := by
    have v0 : M.var 0 (tS0 ns turn (.im (.int en)) (.im (.int (70001 + 1019 * turn))) .un) = .ok (.rol (ns.map .int)) (tS0 ns turn (.im (.int en)) (.im (.int (70001 + 1019 * turn))) .un) := rfl
    have c : DL.cutD (ns.map D.int) none (some (8 : Int)) = (ns.take 8).map fun i : Int => D.int i := by
      unfold DL.cutD
      rw [show HT.sIx (ns.map D.int).length (ns.map D.int).length (some (8 : Int)) = min 8 (ns.map D.int).length from HT.sIx_nat _ _ 8, HT.sIx_none, List.drop_zero, Nat.sub_zero, List.map_take, List.take_eq_take_iff]
      simp
    refine (bind_okD (a := D.lst ((ns.take 8).map fun i : Int => D.int i)) (ρ1 := tS0 ns turn (.im (.int en)) (.im (.int (70001 + 1019 * turn))) .un) ((bind_okD v0).trans ((bind_okD (a := none) rfl).trans ((bind_okD (a := some (8 : Int)) rfl).trans ?_)))).trans rfl
    show Ret.ok (D.lst (DL.cutD (ns.map D.int) none (some (8 : Int)))) _ = _
    rw [c]
  have s3 := (bind_okD it).trans e3
  refine ⟨(if (1000000000000000000 : Int) ≤ (if en < 0 then -en else en) then (if en < 0 then -en else en) else 0, (z * 39373 + en % 999883) % 2147483563, 0), ?_⟩
  unfold V__law_tub b__law_tub
  dsimp only
  refine (congrArg resN (seqN_ok s1)).trans ((congrArg resN (seqN_ok s2)).trans ((congrArg resN (seqN_ok s3)).trans ?_))
  refine (congrArg resN (seqN_ok (ρ1 := tS0 ns turn (.im (.int en)) (.im (.int ((z * 39373 + en % 999883) % 2147483563))) d) (by simp [tS0]))).trans ?_
  by_cases h : (1000000000000000000 : Int) ≤ (if en < 0 then -en else en)
  · rw [if_pos h]
    simp [tS0, absD, DL.gPow, DL.gGe, h]
  · rw [if_neg h]
    simp [tS0, absD, DL.gPow, DL.gGe, h]

/-! K05_MN -/
theorem law_of (hr : ∀ x, ∃ y, O__law_right (tubD x) [] = .ok (.bl true, y)) (ns : List Int) (hn : ns.length ≤ 63) : F_law [.rol (ns.map .int)] = .ok (.bl true) := by
  have hs : slots 4 (List.map Sl.im [.rol (ns.map .int)]) = [.im (.rol (ns.map .int)), .un, .un, .un] := rfl
  unfold F_law b_law
  dsimp only
  rw [hs]
  have rd1 : F_Mirrors_read [.cl "Mirrors", .str "abc ab3 bc3"] = .ok (mir 3 [(0, 1, 3), (1, 2, 3)] "abc ab3 bc3") := by kernel_rfl
  have rd2 : F_Mirrors_read [.cl "Mirrors", .str "ab ab0"] = .ok (mir 2 [(0, 1, 0)] "ab ab0") := by kernel_rfl
  refine (congrArg resD (seq_nxD (ρ1 := [.im (.rol (ns.map .int)), .im (mir 3 [(0, 1, 3), (1, 2, 3)] "abc ab3 bc3"), .im (mir 2 [(0, 1, 0)] "ab ab0"), .un]) ?_)).trans ?_
  · refine (bind_okD (a := [mir 3 [(0, 1, 3), (1, 2, 3)] "abc ab3 bc3", mir 2 [(0, 1, 0)] "ab ab0"]) (ρ1 := [.im (.rol (ns.map .int)), .un, .un, .un]) ?_).trans rfl
    exact cons_ok (call_ok (ds := [.cl "Mirrors", .str "abc ab3 bc3"]) rfl rd1) (cons_ok (call_ok (ds := [.cl "Mirrors", .str "ab ab0"]) rfl rd2) rfl)
  refine (congrArg resD (seq_nxD (ρ1 := [.im (.rol (ns.map .int)), .im (mir 3 [(0, 1, 3), (1, 2, 3)] "abc ab3 bc3"), .im (mir 2 [(0, 1, 0)] "ab ab0"), .un]) (if_noD ?_))).trans ?_
  · kernel_rfl
  · have P : ∃ ρ : Sls, ρ = [.im (.rol (ns.map .int)), .im (mir 3 [(0, 1, 3), (1, 2, 3)] "abc ab3 bc3"), .im (mir 2 [(0, 1, 0)] "ab ab0"), .un] := ⟨_, rfl⟩
    obtain ⟨ρ, hρ⟩ := P
    rw [← hρ]
    have v0 : M.var 0 ρ = .ok (.rol (ns.map .int)) ρ := by rw [hρ]; rfl
    obtain ⟨N, hN, hN6⟩ : ∃ N : Nat, (N : Int) = (if (if (6 : Int) < (ns.length : Nat) then 6 else ((ns.length : Nat) : Int)) > 2 then (if (6 : Int) < (ns.length : Nat) then 6 else ((ns.length : Nat) : Int)) else 2) ∧ N ≤ 6 := by
      by_cases h1 : (6 : Int) < (ns.length : Nat)
      · exact ⟨6, by rw [if_pos h1]; rfl, by omega⟩
      · by_cases h2 : ((ns.length : Nat) : Int) > 2
        · exact ⟨ns.length, by rw [if_neg h1, if_pos h2], by omega⟩
        · exact ⟨2, by rw [if_neg h1, if_neg h2]; rfl, by omega⟩
    have rg : (((((M.ret (D.int 2)).cons ((((((M.var 0).cons (M.ret [])).bind (g1 lenD)).cons ((M.ret (D.int 6)).cons (M.ret []))).bind (g2 minA)).cons (M.ret []))).bind (g2 maxA)).cons (M.ret [])).bind range1) ρ = .ok ((List.range N).map fun (k : Nat) => D.int k) ρ := by
      have l1 : (((M.var 0).cons (M.ret [])).bind (g1 lenD)) ρ = .ok (.int (ns.length : Nat)) ρ := by
        refine (bind_okD (cons_ok v0 rfl)).trans ?_
        show Ret.ok (D.int ((ns.map D.int).length : Nat)) _ = _
        rw [List.length_map]
      have l2 : (((((M.var 0).cons (M.ret [])).bind (g1 lenD)).cons ((M.ret (D.int 6)).cons (M.ret []))).bind (g2 minA)) ρ = .ok (.int (if (6 : Int) < (ns.length : Nat) then 6 else ((ns.length : Nat) : Int))) ρ := (bind_okD (cons_ok l1 (ds := [D.int 6]) rfl)).trans rfl
      have l3 : (((M.ret (D.int 2)).cons ((((((M.var 0).cons (M.ret [])).bind (g1 lenD)).cons ((M.ret (D.int 6)).cons (M.ret []))).bind (g2 minA)).cons (M.ret []))).bind (g2 maxA)) ρ = .ok (.int N) ρ := by
        rw [hN]
        exact (bind_okD (cons_ok (d := D.int 2) (ρ1 := ρ) rfl (cons_ok l2 rfl))).trans rfl
      exact (bind_okD (cons_ok l3 rfl)).trans (rng_eq N hN6 ρ)
    have cm : M.comp (List.map (fun x => x.snd) [((Str.ofString "turn"), 3)]) (Tg.name 3) (M.ret true) (((M.var 0).cons ((M.var 3).cons (M.ret []))).bind (M.callNO 2 V__law_tub O__law_right)) ((List.range N).map fun (k : Nat) => D.int k) ρ = .ok (.lst ((List.range N).map fun _ => D.bl true)) ρ := by
      refine comp_mapI _ (fun _ => D.bl true) _ (range_len N hN6) fun k hk => ?_
      refine ⟨[.im (.rol (ns.map .int)), .im (mir 3 [(0, 1, 3), (1, 2, 3)] "abc ab3 bc3"), .im (mir 2 [(0, 1, 0)] "ab ab0"), .im (.int k)], _, [.im (.rol (ns.map .int)), .im (mir 3 [(0, 1, 3), (1, 2, 3)] "abc ab3 bc3"), .im (mir 2 [(0, 1, 0)] "ab ab0"), .im (.int k)], by rw [hρ]; rfl, rfl, ?_, by rw [hρ]; rfl⟩
      obtain ⟨x, hx⟩ := tub_ex ns k
      obtain ⟨y, hy⟩ := hr x
      refine (bind_okD (a := [D.rol (ns.map .int), D.int k]) (ρ1 := [.im (.rol (ns.map .int)), .im (mir 3 [(0, 1, 3), (1, 2, 3)] "abc ab3 bc3"), .im (mir 2 [(0, 1, 0)] "ab ab0"), .im (.int k)]) rfl).trans ?_
      unfold M.callNO
      have h2 : [D.rol (ns.map D.int), D.int (k : Int)].length = 2 := rfl
      rw [if_pos h2, hx]
      unfold tubD at hy
      dsimp only
      rw [hy]
    refine (congrArg resD (bind_okD (a := D.bl true) (ρ1 := ρ) ?_)).trans rfl
    exact (bind_okD (cons_ok ((bind_okD rg).trans cm) rfl)).trans (all_true (List.range N) ρ)

/-! K05_MO -/
/-- all entries within M either way -/
def within (M : Nat) (r : List Int) : Prop := ∀ v ∈ r, v.natAbs ≤ M
theorem dot_within : ∀ (a r : List Int) (M : Nat), (∀ v ∈ a, v.natAbs ≤ 3) → within M r → (dot a r).natAbs ≤ 3 * M * r.length
  | [], r, M, _, _ => by simp [dot]
  | _ :: _, [], M, _, _ => by simp [dot]
  | x :: a, y :: r, M, ha, hr => by
    have ih := dot_within a r M (fun v hv => ha v (List.mem_cons_of_mem _ hv)) (fun v hv => hr v (List.mem_cons_of_mem _ hv))
    have hx := ha x (List.mem_cons_self ..)
    have hy := hr y (List.mem_cons_self ..)
    have e : dot (x :: a) (y :: r) = x * y + dot a r := by
      unfold dot
      rw [List.zipWith_cons_cons, List.sum_cons]
    have h1 : (x * y).natAbs ≤ 3 * M := by
      rw [Int.natAbs_mul]
      exact Nat.mul_le_mul hx hy
    rw [e, List.length_cons, Nat.mul_add, Nat.mul_one]
    exact Nat.le_trans (Int.natAbs_add_le _ _) (by omega)
theorem shR_within (n : Nat) (A : Tab) (i : Nat) : ∀ v ∈ shR n A i, v.natAbs ≤ 3 := fun v hv => by
  obtain ⟨j, _, e⟩ := List.mem_map.mp hv
  have := cf_small A i j
  omega
theorem sendL_within (n : Nat) (A : Tab) (i : Nat) (r : List Int) (M : Nat) (hn : n ≤ 6) (hi : i < n) (hr : r.length = n) (h : within M r) : within (20 * M) (sendL n A i r) := by
  intro v hv
  rw [sendL_set n A i r (by omega)] at hv
  rcases List.mem_or_eq_of_mem_set hv with q | q
  · have := h v q
    omega
  · have d := dot_within (shR n A i) r M (shR_within n A i) h
    have g : (r.getD i 0).natAbs ≤ M := by
      have hi2 : i < r.length := by omega
      rw [List.getD_eq_getElem?_getD, List.getElem?_eq_getElem hi2]
      exact h _ (List.getElem_mem hi2)
    have d2 : 3 * M * r.length ≤ 18 * M := by
      rw [hr]
      have := Nat.mul_le_mul_left (3 * M) hn
      omega
    rw [q]
    exact Nat.le_trans (Int.natAbs_add_le _ _) (by omega)
theorem sendW_within (n : Nat) (A : Tab) (w : List Nat) (r : List Int) (M : Nat) (hn : n ≤ 6) (hw : ∀ i ∈ w, i < n) (hr : r.length = n) (h : within M r) : within (20 ^ w.length * M) (sendW n A w r) := by
  unfold sendW
  have key : ∀ (l : List Nat) (r : List Int) (M : Nat), (∀ i ∈ l, i < n) → r.length = n → within M r → within (20 ^ l.length * M) (l.foldl (fun r i => sendL n A i r) r) := by
    intro l
    induction l with
    | nil => intro r M _ _ h; simpa using h
    | cons a l ih =>
      intro r M h1 h2 h3
      have ha := h1 a (List.mem_cons_self ..)
      have := ih (sendL n A a r) (20 * M) (fun i hi => h1 i (List.mem_cons_of_mem _ hi)) (by rw [sendL_len n A a r (by omega)]; exact h2) (sendL_within n A a r M hn ha h2 h3)
      rw [List.length_cons, Nat.pow_succ, Nat.mul_assoc]
      exact this
  have := key w.reverse r M (fun i hi => hw i (List.mem_reverse.mp hi)) hr h
  rw [List.length_reverse] at this
  exact this
/-- .. where the arguments change the list too -/
theorem callO_ok2 {n : Nat} {f : D → List D → Res (D × D)} {fs : M (List D)} {ρ ρ1 : Sls} {t0 : List D} {t ds : List D} {d t' : D} (h00 : ρ[0]? = some (.bo (.lst t0))) (h1 : fs ρ = .ok ds ρ1) (h0 : ρ1[0]? = some (.bo (.lst t))) (hn : ds.length + 1 = n) (hf : f (.lst t) ds = .ok (d, t')) : M.callO 0 n f fs ρ = .ok d (ρ1.set 0 (.bo t')) := by
  have e0 : ownL ρ[0]? = some t0 := by rw [h00]; rfl
  have e : ownL ρ1[0]? = some t := by rw [h0]; rfl
  unfold M.callO
  rw [e0]
  dsimp only
  rw [bind_okD h1, e]
  dsimp only
  rw [if_pos hn, hf, h0]
  rfl

/-! K05_MP -/
/-- shown by repr, nested at most k deep, at most L signs long -/
def Sm (k L : Nat) (d : D) : Prop := ∃ p, toPy d = some p ∧ p.showable = true ∧ p.hasDict = false ∧ p.depth ≤ k ∧ p.shown.length ≤ L
theorem Sm.shown {k L : Nat} {d : D} (h : Sm k L d) (hk : k < 50) (hL : L ≤ 16777216) : ∃ t, shownD d = some t := by
  obtain ⟨p, e, h1, h2, h3, h4⟩ := h
  refine ⟨p.shown, ?_⟩
  unfold shownD
  rw [e]
  have h5 : p.depth < 50 := by omega
  have h6 : p.shown.length ≤ 16777216 := by omega
  simp [h1, h2, h5, h6]
theorem sm_all {k L : Nat} : ∀ ds : List D, (∀ d ∈ ds, Sm k L d) → ∃ ps, toPys ds = some ps ∧ PyData.showableAll ps = true ∧ PyData.hasDictAll ps = false ∧ PyData.depthAll ps ≤ k ∧ (PyData.shownAll ps).length = ds.length ∧ ((PyData.shownAll ps).map (·.length)).sum ≤ ds.length * L
  | [], _ => ⟨[], rfl, rfl, rfl, by rw [PyData.depthAll]; exact Nat.zero_le _, rfl, Nat.zero_le _⟩
  | d :: ds, h => by
    obtain ⟨p, e, h1, h2, h3, h4⟩ := h d (List.mem_cons_self ..)
    obtain ⟨ps, e', g1, g2, g3, g4, g5⟩ := sm_all ds fun d' hd => h d' (List.mem_cons_of_mem _ hd)
    refine ⟨p :: ps, by rw [toPys, e, e'], by rw [PyData.showableAll, h1, g1]; rfl, by rw [PyData.hasDictAll, h2, g2]; rfl, by rw [PyData.depthAll]; omega, by rw [PyData.shownAll, List.length_cons, List.length_cons, g4], ?_⟩
    rw [PyData.shownAll, List.map_cons, List.sum_cons, List.length_cons, Nat.add_mul, Nat.one_mul]
    omega
theorem sm_lst {k L m : Nat} {ds : List D} (h : ∀ d ∈ ds, Sm k L d) (hm : ds.length ≤ m) : Sm (k + 1) (m * L + 2 * m + 10) (.lst ds) := by
  obtain ⟨ps, e, g1, g2, g3, g4, g5⟩ := sm_all ds h
  refine ⟨.list ps, by rw [toPy, e]; rfl, by rw [PyData.showable]; exact g1, by rw [PyData.hasDict]; exact g2, by rw [PyData.depth]; omega, ?_⟩
  rw [PyData.shown]
  have z := listText_len_le (PyData.shownAll ps)
  rw [g4] at z
  have : ds.length * L ≤ m * L := Nat.mul_le_mul_right L hm
  omega
theorem sm_int {i : Int} (h : i.natAbs < 10 ^ 200) : Sm 1 201 (.int i) := by
  refine ⟨.int i, rfl, ?_, rfl, by rw [PyData.depth]; decide, ?_⟩
  · rw [PyData.showable]
    refine decide_eq_true ?_
    by_cases z : i.natAbs = 0
    · rw [z]; decide
    · exact (Nat.log2_lt z).mpr (Nat.lt_of_lt_of_le h (by decide +kernel))
  · rw [PyData.shown]
    have e := int_text_length_le10 (k := 200) (by decide) h
    show (Str.ofString (toString i)).length ≤ 201
    rw [PySem.ofString_length]; omega

/-! K05_MQ -/
theorem sm_tup {k L m : Nat} {ds : List D} (h : ∀ d ∈ ds, Sm k L d) (hm : ds.length ≤ m) : Sm (k + 1) (m * L + 2 * m + 10) (.tup ds) := by
  obtain ⟨ps, e, g1, g2, g3, g4, g5⟩ := sm_all ds h
  refine ⟨.tuple ps, by rw [toPy, e]; rfl, by rw [PyData.showable]; exact g1, by rw [PyData.hasDict]; exact g2, by rw [PyData.depth]; omega, ?_⟩
  rw [PyData.shown]
  have z := tupleText_len_le (PyData.shownAll ps)
  rw [g4] at z
  have : ds.length * L ≤ m * L := Nat.mul_le_mul_right L hm
  omega
theorem sm_row {r : List Int} (h : within (10 ^ 199) r) (hl : r.length ≤ 6) : Sm 2 1300 (rowD r) := by
  have s := sm_tup (k := 1) (L := 201) (m := 6) (ds := r.map D.int) (fun d hd => by
    obtain ⟨i, hi, rfl⟩ := List.mem_map.mp hd
    exact sm_int (Nat.lt_of_le_of_lt (h i hi) (by decide +kernel))) (by rw [List.length_map]; exact hl)
  obtain ⟨p, e, h1, h2, h3, h4⟩ := s
  exact ⟨p, e, h1, h2, h3, by omega⟩
/-- the texts of the same datum do not differ -/
theorem ne_repr {fa fb : M D} {d : D} {t : Str} {ρ ρ1 ρ2 : Sls} (h : shownD d = some t) (h1 : fa ρ = .ok d ρ1) (h2 : fb ρ1 = .ok d ρ2) : ((((fa.cons (M.ret [])).bind (g1 reprD)).two ((fb.cons (M.ret [])).bind (g1 reprD)) gNeA).bind M.tb) ρ = .ok false ρ2 := by
  have rp : ∀ ρ, reprD d ρ = .ok (.str t) ρ := fun ρ => by
    unfold reprD
    rw [h]; rfl
  have a1 : ((fa.cons (M.ret [])).bind (g1 reprD)) ρ = .ok (.str t) ρ1 := (bind_okD (cons_ok h1 rfl)).trans (rp ρ1)
  have a2 : ((fb.cons (M.ret [])).bind (g1 reprD)) ρ1 = .ok (.str t) ρ2 := (bind_okD (cons_ok h2 rfl)).trans (rp ρ2)
  refine (bind_okD (a := D.bl false) (ρ1 := ρ2) ((two_okD a1 a2).trans ?_)).trans rfl
  simp
/-- what word_ex and pick_ex want of 10 ^ 40 -/
theorem wide_log (v : Int) (h : v = 3 ∨ v = 10 ^ 6 ∨ v = 10 ^ 40) : (2 * v + 1).natAbs.log2 < 9000 := by
  rcases h with rfl | rfl | rfl <;> decide +kernel

/-! K05_MR -/
theorem seq_ex {m k : M Out} {ρ ρ1 : Sls} {P : Sls → Prop} (h : m ρ = .ok .nx ρ1) (h2 : ∃ ρ2, k ρ1 = .ok .nx ρ2 ∧ P ρ2) : ∃ ρ2, (m.seq k) ρ = .ok .nx ρ2 ∧ P ρ2 := by
  obtain ⟨ρ2, e, p⟩ := h2
  exact ⟨ρ2, (seq_nxD h).trans e, p⟩
def rS (x : Tub) (s1 s2 s3 s4 s5 s6 s7 s8 s9 s10 s11 s12 s13 : Sl) : Sls := [.bo (tubD x), s1, s2, s3, s4, s5, s6, s7, s8, s9, s10, s11, s12, s13]
def anyR (ρ : Sls) : Prop := ∃ x s1 s2 s3 s4 s5 s6 s7 s8 s9 s10 s11 s12 s13, ρ = rS x s1 s2 s3 s4 s5 s6 s7 s8 s9 s10 s11 s12 s13
theorem ints_of (Q : Int → Prop) : ∀ es : List D, (∀ e ∈ es, ∃ i : Int, e = .int i ∧ Q i) → ∃ r : List Int, es = r.map D.int ∧ ∀ i ∈ r, Q i
  | [], _ => ⟨[], rfl, fun _ h => by cases h⟩
  | e :: es, h => by
    obtain ⟨i, rfl, hi⟩ := h e (List.mem_cons_self ..)
    obtain ⟨w, rfl, hw⟩ := ints_of Q es fun x hx => h x (List.mem_cons_of_mem _ hx)
    exact ⟨i :: w, rfl, fun j hj => by
      rcases List.mem_cons.mp hj with rfl | hj
      · exact hi
      · exact hw j hj⟩
/-- a row is drawn -/
theorem row_ex (x : Tub) (n : Nat) (A : Tab) (wd : Int) (hw : wd = 3 ∨ wd = 10 ^ 6 ∨ wd = 10 ^ 40) (hn : n ≤ 6) (s1 s3 s4 s5 s7 s8 s9 s10 s11 s13 : Sl) (nb : ∀ s ∈ [s1, s3, s4, s5, s7, s8, s9, s10, s11, s13], ∃ d, s = .im d ∨ s = .un) :
    ∃ r y, M.comp (List.map (fun x => x.snd) [((Str.ofString "k"), 12)]) (Tg.name 12) (M.ret true) ((M.callO 0 2 O__law_sip ((((M.ret (D.int 2)).two (M.var 6) gMul).two (M.ret (D.int 1)) gAdd).cons (M.ret []))).two (M.var 6) DL.gSub) ((List.range n).map fun (k : Nat) => D.int k) (rS x s1 (.im (planD n A)) s3 s4 s5 (.im (.int wd)) s7 s8 s9 s10 s11 .un s13) =
      .ok (.lst (r.map D.int)) (rS y s1 (.im (planD n A)) s3 s4 s5 (.im (.int wd)) s7 s8 s9 s10 s11 .un s13) ∧ r.length = n ∧ within (10 ^ 41) r := by
  have hp : 0 < wd ∧ wd ≤ 10 ^ 40 := by rcases hw with rfl | rfl | rfl <;> decide
  have no : ∀ s ∈ [s1, s3, s4, s5, s7, s8, s9, s10, s11, s13], noOw s = s ∧ outSl s s = s := fun s hs => by
    obtain ⟨d, q | q⟩ := nb s hs <;> subst q <;> exact ⟨rfl, rfl⟩
  simp only [List.mem_cons, List.not_mem_nil, or_false, forall_eq_or_imp, forall_eq] at no
  obtain ⟨⟨a1, b1⟩, ⟨a3, b3⟩, ⟨a4, b4⟩, ⟨a5, b5⟩, ⟨a7, b7⟩, ⟨a8, b8⟩, ⟨a9, b9⟩, ⟨a10, b10⟩, ⟨a11, b11⟩, ⟨a13, b13⟩⟩ := no
  obtain ⟨es, ρ', c1, c2, c3, y2, e2⟩ := comp_inv (vs := List.map (fun x => x.snd) [((Str.ofString "k"), 12)]) (g := Tg.name 12) (tt := M.ret true) (fe := (M.callO 0 2 O__law_sip ((((M.ret (D.int 2)).two (M.var 6) gMul).two (M.ret (D.int 1)) gAdd).cons (M.ret []))).two (M.var 6) DL.gSub) (fun ρ => ∃ y, ρ = rS y s1 (.im (planD n A)) s3 s4 s5 (.im (.int wd)) s7 s8 s9 s10 s11 .un s13) (fun e => ∃ i : Int, e = .int i ∧ i.natAbs ≤ 10 ^ 41) ((List.range n).map fun (k : Nat) => D.int k) (rS x s1 (.im (planD n A)) s3 s4 s5 (.im (.int wd)) s7 s8 s9 s10 s11 .un s13) (by rw [List.length_map, List.length_range]; omega) ⟨x, rfl⟩ (fun k hk ρ ⟨z, ez⟩ => by
    subst ez
    obtain ⟨d, z2, e, d0, d1⟩ := sip_ex z (2 * wd + 1) (by omega) (wide_log wd hw)
    have hin : inBlk (rS z s1 (.im (planD n A)) s3 s4 s5 (.im (.int wd)) s7 s8 s9 s10 s11 .un s13) (List.map (fun x => x.snd) [((Str.ofString "k"), 12)]) = rS z s1 (.im (planD n A)) s3 s4 s5 (.im (.int wd)) s7 s8 s9 s10 s11 .un s13 := by
      show [Sl.bo (tubD z), noOw s1, .im (planD n A), noOw s3, noOw s4, noOw s5, .im (.int wd), noOw s7, noOw s8, noOw s9, noOw s10, noOw s11, .un, noOw s13] = _
      rw [a1, a3, a4, a5, a7, a8, a9, a10, a11, a13]; rfl
    have v6 : ∀ z, M.var 6 (rS z s1 (.im (planD n A)) s3 s4 s5 (.im (.int wd)) s7 s8 s9 s10 s11 (.im k) s13) = .ok (.int wd) (rS z s1 (.im (planD n A)) s3 s4 s5 (.im (.int wd)) s7 s8 s9 s10 s11 (.im k) s13) := fun _ => rfl
    have ar : ((((M.ret (D.int 2)).two (M.var 6) gMul).two (M.ret (D.int 1)) gAdd).cons (M.ret [])) (rS z s1 (.im (planD n A)) s3 s4 s5 (.im (.int wd)) s7 s8 s9 s10 s11 (.im k) s13) = .ok [.int (2 * wd + 1)] (rS z s1 (.im (planD n A)) s3 s4 s5 (.im (.int wd)) s7 s8 s9 s10 s11 (.im k) s13) :=
      cons_ok ((two_okD ((two_okD (a := D.int 2) rfl (v6 z)).trans (show gMul (.int 2) (.int wd) _ = .ok (.int (2 * wd)) _ by simp)) (b := D.int 1) rfl).trans rfl) rfl
    have cl := callO_ok (n := 2) (f := O__law_sip) (t := [.int z.1, .int z.2.1, .int z.2.2]) (d := .int d) (t' := tubD z2) rfl ar rfl e
    refine ⟨rS z s1 (.im (planD n A)) s3 s4 s5 (.im (.int wd)) s7 s8 s9 s10 s11 (.im k) s13, rS z s1 (.im (planD n A)) s3 s4 s5 (.im (.int wd)) s7 s8 s9 s10 s11 (.im k) s13, rS z2 s1 (.im (planD n A)) s3 s4 s5 (.im (.int wd)) s7 s8 s9 s10 s11 (.im k) s13, .int (d - wd), by rw [hin]; rfl, rfl, (two_okD cl (v6 z2)).trans rfl, ⟨d - wd, rfl, by omega⟩, z2, ?_⟩
    show [Sl.bo (tubD z2), outSl s1 s1, .im (planD n A), outSl s3 s3, outSl s4 s4, outSl s5 s5, .im (.int wd), outSl s7 s7, outSl s8 s8, outSl s9 s9, outSl s10 s10, outSl s11 s11, .un, outSl s13 s13] = _
    rw [b1, b3, b4, b5, b7, b8, b9, b10, b11, b13]; rfl)
  subst e2
  obtain ⟨r, rfl, hr⟩ := ints_of _ es c3
  refine ⟨r, y2, c1, ?_, hr⟩
  rw [List.length_map, List.length_map, List.length_range] at c2
  exact c2

/-! K05_MS -/
/-- .. a small one -/
theorem more_ex (x : Tub) (n : Nat) (A : Tab) (hn : n ≤ 6) (s1 s3 s4 s5 s6 s7 s8 s9 s10 s11 s13 : Sl) (nb : ∀ s ∈ [s1, s3, s4, s5, s6, s7, s8, s9, s10, s11, s13], ∃ d, s = .im d ∨ s = .un) :
    ∃ r y, M.comp (List.map (fun x => x.snd) [((Str.ofString "k"), 12)]) (Tg.name 12) (M.ret true) ((M.callO 0 2 O__law_sip ((M.ret (D.int 9)).cons (M.ret []))).two (M.ret (D.int 4)) DL.gSub) ((List.range n).map fun (k : Nat) => D.int k) (rS x s1 (.im (planD n A)) s3 s4 s5 s6 s7 s8 s9 s10 s11 .un s13) =
      .ok (.lst (r.map D.int)) (rS y s1 (.im (planD n A)) s3 s4 s5 s6 s7 s8 s9 s10 s11 .un s13) ∧ r.length = n ∧ within (10 ^ 41) r := by
  have no : ∀ s ∈ [s1, s3, s4, s5, s6, s7, s8, s9, s10, s11, s13], noOw s = s ∧ outSl s s = s := fun s hs => by
    obtain ⟨d, q | q⟩ := nb s hs <;> subst q <;> exact ⟨rfl, rfl⟩
  simp only [List.mem_cons, List.not_mem_nil, or_false, forall_eq_or_imp, forall_eq] at no
  obtain ⟨⟨a1, b1⟩, ⟨a3, b3⟩, ⟨a4, b4⟩, ⟨a5, b5⟩, ⟨a6, b6⟩, ⟨a7, b7⟩, ⟨a8, b8⟩, ⟨a9, b9⟩, ⟨a10, b10⟩, ⟨a11, b11⟩, ⟨a13, b13⟩⟩ := no
  obtain ⟨es, ρ', c1, c2, c3, y2, e2⟩ := comp_inv (vs := List.map (fun x => x.snd) [((Str.ofString "k"), 12)]) (g := Tg.name 12) (tt := M.ret true) (fe := (M.callO 0 2 O__law_sip ((M.ret (D.int 9)).cons (M.ret []))).two (M.ret (D.int 4)) DL.gSub) (fun ρ => ∃ y, ρ = rS y s1 (.im (planD n A)) s3 s4 s5 s6 s7 s8 s9 s10 s11 .un s13) (fun e => ∃ i : Int, e = .int i ∧ i.natAbs ≤ 10 ^ 41) ((List.range n).map fun (k : Nat) => D.int k) (rS x s1 (.im (planD n A)) s3 s4 s5 s6 s7 s8 s9 s10 s11 .un s13) (by rw [List.length_map, List.length_range]; omega) ⟨x, rfl⟩ (fun k hk ρ ⟨z, ez⟩ => by
    subst ez
    obtain ⟨d, z2, e, d0, d1⟩ := sip_ex z 9 (by decide) (by decide)
    have hin : inBlk (rS z s1 (.im (planD n A)) s3 s4 s5 s6 s7 s8 s9 s10 s11 .un s13) (List.map (fun x => x.snd) [((Str.ofString "k"), 12)]) = rS z s1 (.im (planD n A)) s3 s4 s5 s6 s7 s8 s9 s10 s11 .un s13 := by
      show [Sl.bo (tubD z), noOw s1, .im (planD n A), noOw s3, noOw s4, noOw s5, noOw s6, noOw s7, noOw s8, noOw s9, noOw s10, noOw s11, .un, noOw s13] = _
      rw [a1, a3, a4, a5, a6, a7, a8, a9, a10, a11, a13]; rfl
    have ar : ((M.ret (D.int 9)).cons (M.ret [])) (rS z s1 (.im (planD n A)) s3 s4 s5 s6 s7 s8 s9 s10 s11 (.im k) s13) = .ok [.int 9] (rS z s1 (.im (planD n A)) s3 s4 s5 s6 s7 s8 s9 s10 s11 (.im k) s13) := rfl
    have cl := callO_ok (n := 2) (f := O__law_sip) (t := [.int z.1, .int z.2.1, .int z.2.2]) (d := .int d) (t' := tubD z2) rfl ar rfl e
    refine ⟨rS z s1 (.im (planD n A)) s3 s4 s5 s6 s7 s8 s9 s10 s11 (.im k) s13, rS z s1 (.im (planD n A)) s3 s4 s5 s6 s7 s8 s9 s10 s11 (.im k) s13, rS z2 s1 (.im (planD n A)) s3 s4 s5 s6 s7 s8 s9 s10 s11 (.im k) s13, .int (d - 4), by rw [hin]; rfl, rfl, (two_okD cl (b := D.int 4) rfl).trans rfl, ⟨d - 4, rfl, by omega⟩, z2, ?_⟩
    show [Sl.bo (tubD z2), outSl s1 s1, .im (planD n A), outSl s3 s3, outSl s4 s4, outSl s5 s5, outSl s6 s6, outSl s7 s7, outSl s8 s8, outSl s9 s9, outSl s10 s10, outSl s11 s11, .un, outSl s13 s13] = _
    rw [b1, b3, b4, b5, b6, b7, b8, b9, b10, b11, b13]; rfl)
  subst e2
  obtain ⟨r, rfl, hr⟩ := ints_of _ es c3
  refine ⟨r, y2, c1, ?_, hr⟩
  rw [List.length_map, List.length_map, List.length_range] at c2
  exact c2

/-! K05_MU -/
theorem toPys_ints : ∀ r : List Int, toPys (r.map D.int) = some (r.map PyData.int)
  | [] => rfl
  | i :: r => by
    rw [List.map_cons, toPys, toPys_ints r]; rfl
theorem lay_ints : ∀ r : List Int, PyData.canLayAll0 (r.map PyData.int) = true
  | [] => rfl
  | i :: r => by
    rw [List.map_cons, PyData.canLayAll0, lay_ints r]; rfl
theorem depth_ints : ∀ r : List Int, PyData.depthAll (r.map PyData.int) ≤ 1
  | [] => by
    show PyData.depthAll [] ≤ 1
    rw [PyData.depthAll]; exact Nat.zero_le _
  | i :: r => by
    have := depth_ints r
    rw [List.map_cons, PyData.depthAll, PyData.depth]
    omega
theorem ne_row (r : List Int) (ρ : Sls) : gNeA (rowD r) (rowD r) ρ = .ok (.bl false) ρ := by
  have e : toPy (rowD r) = some (.tuple (r.map PyData.int)) := by
    unfold rowD
    rw [toPy, toPys_ints]; rfl
  have c : (PyData.tuple (r.map PyData.int)).canLay0 = true := by
    rw [PyData.canLay0]; exact lay_ints r
  have dp : (PyData.tuple (r.map PyData.int)).depth ≤ 64 := by
    have := depth_ints r
    rw [PyData.depth]
    omega
  have q : PyData.eqv (.tuple (r.map PyData.int)) (.tuple (r.map PyData.int)) = true := PySem.SeqAt.eqv_refl _ c
  have sh : SeqAt.shaped (.tuple (r.map PyData.int)) = true := by
    unfold SeqAt.shaped
    rw [c, decide_eq_true dp]; rfl
  have g : gEqB true (rowD r) (rowD r) ρ = .ok (.bl false) ρ := by
    unfold gEqB
    rw [e]
    dsimp only
    rw [sh, q]; rfl
  unfold gNeA M.alt
  show (match gEqB true (rowD r) (rowD r) ρ with | r => r) = _
  exact g
theorem ne_nil (ρ : Sls) : gNeA (.lst []) (.lst []) ρ = .ok (.bl false) ρ := by kernel_rfl

/-! K05_MV -/
def imS (s : Sl) : Prop := ∃ d, s = .im d ∨ s = .un
theorem imS.no {s : Sl} (h : imS s) : noOw s = s ∧ outSl s s = s := by
  obtain ⟨d, q | q⟩ := h <;> subst q <;> exact ⟨rfl, rfl⟩
theorem blk12 (x : Tub) {s1 s2 s3 s4 s5 s6 s7 s8 s9 s10 s11 : Sl} (h : ∀ s ∈ [s1, s2, s3, s4, s5, s6, s7, s8, s9, s10, s11], imS s) :
    inBlk (rS x s1 s2 s3 s4 s5 s6 s7 s8 s9 s10 s11 .un .un) [12] = rS x s1 s2 s3 s4 s5 s6 s7 s8 s9 s10 s11 .un .un ∧ inBlk (rS x s1 s2 s3 s4 s5 s6 s7 s8 s9 s10 s11 .un .un) [13] = rS x s1 s2 s3 s4 s5 s6 s7 s8 s9 s10 s11 .un .un ∧
    (∀ k, outBlk (rS x s1 s2 s3 s4 s5 s6 s7 s8 s9 s10 s11 .un .un) (rS x s1 s2 s3 s4 s5 s6 s7 s8 s9 s10 s11 (.im k) .un) = rS x s1 s2 s3 s4 s5 s6 s7 s8 s9 s10 s11 .un .un) ∧ (∀ k, outBlk (rS x s1 s2 s3 s4 s5 s6 s7 s8 s9 s10 s11 .un .un) (rS x s1 s2 s3 s4 s5 s6 s7 s8 s9 s10 s11 .un (.im k)) = rS x s1 s2 s3 s4 s5 s6 s7 s8 s9 s10 s11 .un .un) := by
  have no : ∀ s ∈ [s1, s2, s3, s4, s5, s6, s7, s8, s9, s10, s11], noOw s = s ∧ outSl s s = s := fun s hs => (h s hs).no
  simp only [List.mem_cons, List.not_mem_nil, or_false, forall_eq_or_imp, forall_eq] at no
  obtain ⟨⟨a1, b1⟩, ⟨a2, b2⟩, ⟨a3, b3⟩, ⟨a4, b4⟩, ⟨a5, b5⟩, ⟨a6, b6⟩, ⟨a7, b7⟩, ⟨a8, b8⟩, ⟨a9, b9⟩, ⟨a10, b10⟩, ⟨a11, b11⟩⟩ := no
  refine ⟨?_, ?_, fun k => ?_, fun k => ?_⟩
  · show [Sl.bo (tubD x), noOw s1, noOw s2, noOw s3, noOw s4, noOw s5, noOw s6, noOw s7, noOw s8, noOw s9, noOw s10, noOw s11, .un, .un] = _
    rw [a1, a2, a3, a4, a5, a6, a7, a8, a9, a10, a11]; rfl
  · show [Sl.bo (tubD x), noOw s1, noOw s2, noOw s3, noOw s4, noOw s5, noOw s6, noOw s7, noOw s8, noOw s9, noOw s10, noOw s11, .un, .un] = _
    rw [a1, a2, a3, a4, a5, a6, a7, a8, a9, a10, a11]; rfl
  · show [Sl.bo (tubD x), outSl s1 s1, outSl s2 s2, outSl s3 s3, outSl s4 s4, outSl s5 s5, outSl s6 s6, outSl s7 s7, outSl s8 s8, outSl s9 s9, outSl s10 s10, outSl s11 s11, .un, .un] = _
    rw [b1, b2, b3, b4, b5, b6, b7, b8, b9, b10, b11]; rfl
  · show [Sl.bo (tubD x), outSl s1 s1, outSl s2 s2, outSl s3 s3, outSl s4 s4, outSl s5 s5, outSl s6 s6, outSl s7 s7, outSl s8 s8, outSl s9 s9, outSl s10 s10, outSl s11 s11, .un, .un] = _
    rw [b1, b2, b3, b4, b5, b6, b7, b8, b9, b10, b11]; rfl
theorem addR_map (n : Nat) (r m : List Int) (lr : r.length = n) (lm : m.length = n) : (addR r m) = (List.range n).map fun k => r.getD k 0 + m.getD k 0 := by
  apply List.ext_getElem?
  intro j
  by_cases h : j < n
  · rw [List.getElem?_map, List.getElem?_range h]
    have h1 : j < r.length := by omega
    have e := addR_getD r m j (by omega) h1
    have h2 : j < (addR r m).length := by rw [addR_len r m (by omega)]; exact h1
    rw [List.getD_eq_getElem?_getD, List.getElem?_eq_getElem h2] at e
    rw [List.getElem?_eq_getElem h2]
    exact congrArg some e
  · rw [List.getElem?_eq_none (by rw [addR_len r m (by omega)]; omega), List.getElem?_eq_none (by rw [List.length_map, List.length_range]; omega)]

/-! K05_MT -/
/-- between two turns -/
def tnS (ρ : Sls) : Prop := ∃ x s1 s2 s3 s4 s5 s6 s7 s8 s9 s10 s11, ρ = rS x s1 s2 s3 s4 s5 s6 s7 s8 s9 s10 s11 .un .un ∧ ∀ s ∈ [s1, s2, s3, s4, s5, s6, s7, s8, s9, s10, s11], imS s
theorem callK_ok {n m : Nat} {π : List Nat} {F : List D → Res D} {ds : List D} {d : D} {ρ : Sls} (hm : ds.length = m) (h : M.call n F (pick π ds) ρ = .ok d ρ) : M.callK n m π F ds ρ = .ok d ρ := by
  unfold M.callK M.grd
  rw [if_pos (decide_eq_true hm)]
  exact h
theorem within_send (n : Nat) (A : Tab) (w : List Nat) (r : List Int) (n6 : n ≤ 6) (hw : ∀ i ∈ w, i < n) (lw : w.length ≤ 60) (lr : r.length = n) (h : within (10 ^ 41) r) : within (10 ^ 199) (sendW n A w r) := fun v hv => by
  have h1 := sendW_within n A w r (10 ^ 41) n6 hw lr h v hv
  have h2 : 20 ^ w.length ≤ 20 ^ 60 := Nat.pow_le_pow_right (by decide) lw
  have h3 : 20 ^ w.length * 10 ^ 41 ≤ 20 ^ 60 * 10 ^ 41 := Nat.mul_le_mul_right _ h2
  have h4 : 20 ^ 60 * 10 ^ 41 ≤ 10 ^ 199 := by decide +kernel
  exact Nat.le_trans h1 (Nat.le_trans h3 h4)
theorem disp_ok {fs : M (List D)} {ds : List D} {ρ ρ1 : Sls} (h : fs ρ = .ok ds ρ1) (hl : ds.length ≤ 16777216) : (fs.disp D.lst) ρ = .ok (.lst ds) ρ1 := by
  unfold M.disp M.grd
  rw [bind_okD h, if_pos (decide_eq_true hl)]; rfl
theorem min_row (i : Int) (r : List Int) (ρ : Sls) : min1D (rowD (i :: r)) ρ = .ok (.int (leastI i r)) ρ := by
  show least1 ((i :: r).map D.int) ρ = _
  unfold least1
  rw [intsD_map]; rfl
theorem max_row (i : Int) (r : List Int) (ρ : Sls) : max1D (rowD (i :: r)) ρ = .ok (.int (mostI i r)) ρ := by
  show most1 ((i :: r).map D.int) ρ = _
  unfold most1
  rw [intsD_map]; rfl
/-- no row has numbers below 0 and above 0 -/
theorem sign_test (S : List Int) (h0 : S ≠ []) (hs : (∀ v ∈ S, 0 ≤ v) ∨ (∀ v ∈ S, v ≤ 0)) (ρ : Sls) (h13 : M.var 13 ρ = .ok (rowD S) ρ) :
    ((((((M.var 13).cons (M.ret [])).bind (g1 min1D)).two (M.ret (D.int 0)) gLt).bind M.tb).and (((((M.var 13).cons (M.ret [])).bind (g1 max1D)).two (M.ret (D.int 0)) gGt).bind M.tb)) ρ = .ok false ρ := by
  match S, h0 with
  | i :: r, _ =>
    have a1 : (((((M.var 13).cons (M.ret [])).bind (g1 min1D)).two (M.ret (D.int 0)) gLt).bind M.tb) ρ = .ok (decide (leastI i r < 0)) ρ :=
      (bind_okD (a := D.bl (decide (leastI i r < 0))) (ρ1 := ρ) ((two_okD ((bind_okD (cons_ok h13 rfl)).trans (min_row i r ρ)) (b := D.int 0) rfl).trans rfl)).trans rfl
    have a2 : (((((M.var 13).cons (M.ret [])).bind (g1 max1D)).two (M.ret (D.int 0)) gGt).bind M.tb) ρ = .ok (decide (0 < mostI i r)) ρ :=
      (bind_okD (a := D.bl (decide (0 < mostI i r))) (ρ1 := ρ) ((two_okD ((bind_okD (cons_ok h13 rfl)).trans (max_row i r ρ)) (b := D.int 0) rfl).trans rfl)).trans rfl
    refine (bind_okD a1).trans ?_
    rcases hs with hs | hs
    · have h : ¬ leastI i r < 0 := by
        obtain ⟨_, _, q⟩ := leastI_is r i
        rcases q with q | q
        · have := hs i (List.mem_cons_self ..)
          omega
        · have := hs _ (List.mem_cons_of_mem _ q)
          omega
      rw [decide_eq_false h]; rfl
    · have h : ¬ 0 < mostI i r := by
        obtain ⟨_, _, q⟩ := mostI_is r i
        rcases q with q | q
        · have := hs i (List.mem_cons_self ..)
          omega
        · have := hs _ (List.mem_cons_of_mem _ q)
          omega
      rw [decide_eq_false h] at a2
      cases decide (leastI i r < 0)
      · rfl
      · exact a2
theorem right_eq (x : Tub) : ∃ y, O__law_right (tubD x) [] = .ok (.bl true, y) := by
  unfold O__law_right b__law_right
  dsimp only
  have rg : (((M.ret (D.int 4)).cons (M.ret [])).bind range1) (rS x .un .un .un .un .un .un .un .un .un .un .un .un .un) = .ok ((List.range 4).map fun (k : Nat) => D.int k) (rS x .un .un .un .un .un .un .un .un .un .un .un .un .un) := (bind_okD (cons_ok (d := D.int 4) (ρ1 := rS x .un .un .un .un .un .un .un .un .un .un .un .un .un) rfl rfl)).trans (rng_eq 4 (by decide) _)
  have fin : ∀ (body k : M Out), (∀ ρ, tnS ρ → ∀ t : D, ∃ ρ2, body (ρ.set 1 (.im t)) = .ok .nx ρ2 ∧ tnS ρ2) → (∀ ρ, tnS ρ → ∃ y, DL.resB (k ρ) = .ok (.bl true, y)) → ∃ y, DL.resB (((((M.ret (D.int 4)).cons (M.ret [])).bind range1).bind (M.loop (Tg.name 1) body)).seq k (rS x .un .un .un .un .un .un .un .un .un .un .un .un .un)) = .ok (.bl true, y) := fun body k hb hk => by
    obtain ⟨ρ', e, p⟩ := loop_inv (g := Tg.name 1) (body := body) tnS ((List.range 4).map fun (k : Nat) => D.int k) (rS x .un .un .un .un .un .un .un .un .un .un .un .un .un) ⟨x, _, _, _, _, _, _, _, _, _, _, _, rfl, fun s hs => by
      simp only [List.mem_cons, List.not_mem_nil, or_false, or_self] at hs
      exact ⟨.non, .inr hs⟩⟩ (fun d _ ρ hp => by
        obtain ⟨ρ2, e, p⟩ := hb ρ hp d
        exact ⟨_, ρ2, rfl, e, p⟩)
    obtain ⟨y, hy⟩ := hk ρ' p
    exact ⟨y, (congrArg DL.resB (seq_nxD ((bind_okD rg).trans e))).trans hy⟩
  refine fin _ _ (fun ρ hp t => ?_) (fun ρ hp => ?_)
  · obtain ⟨x, s1, s2, s3, s4, s5, s6, s7, s8, s9, s10, s11, rfl, nb⟩ := hp
    simp only [List.mem_cons, List.not_mem_nil, or_false, forall_eq_or_imp, forall_eq] at nb
    obtain ⟨i1, i2, i3, i4, i5, i6, i7, i8, i9, i10, i11⟩ := nb
    rw [show (rS x s1 s2 s3 s4 s5 s6 s7 s8 s9 s10 s11 .un .un).set 1 (.im t) = rS x (.im t) s2 s3 s4 s5 s6 s7 s8 s9 s10 s11 .un .un from rfl]
    obtain ⟨n, A, y, hpl, n0, n6, ok⟩ := plan_ex x
    refine seq_ex (ρ1 := rS y (.im t) (.im (planD n A)) s3 s4 s5 s6 s7 s8 s9 s10 s11 .un .un) ?_ ?_
    · exact (bind_okD (callO_ok (n := 2) (f := O__law_plan) (fs := (M.ret (D.int 6)).cons (M.ret [])) (ρ := rS x (.im t) s2 s3 s4 s5 s6 s7 s8 s9 s10 s11 .un .un) (t := [.int x.1, .int x.2.1, .int x.2.2]) (ds := [.int 6]) rfl rfl rfl hpl)).trans rfl
    obtain ⟨tx, hmd⟩ := made_eq n A n0 n6 ok
    refine seq_ex (ρ1 := rS y (.im t) (.im (planD n A)) (.im (mir n A tx)) s4 s5 s6 s7 s8 s9 s10 s11 .un .un) ?_ ?_
    · have v2 : M.var 2 (rS y (.im t) (.im (planD n A)) s3 s4 s5 s6 s7 s8 s9 s10 s11 .un .un) = .ok (planD n A) (rS y (.im t) (.im (planD n A)) s3 s4 s5 s6 s7 s8 s9 s10 s11 .un .un) := rfl
      exact (bind_okD ((bind_okD (cons_ok v2 rfl)).trans (call_ok rfl hmd))).trans rfl
    have R : ∀ (y : Tub) (s4 s5 s6 s7 s8 s9 s10 s11 : Sl), M.var 2 (rS y (.im t) (.im (planD n A)) (.im (mir n A tx)) s4 s5 s6 s7 s8 s9 s10 s11 .un .un) = .ok (planD n A) (rS y (.im t) (.im (planD n A)) (.im (mir n A tx)) s4 s5 s6 s7 s8 s9 s10 s11 .un .un) := fun _ _ _ _ _ _ _ _ _ => rfl
    have R3 : ∀ (y : Tub) (s4 s5 s6 s7 s8 s9 s10 s11 : Sl), M.var 3 (rS y (.im t) (.im (planD n A)) (.im (mir n A tx)) s4 s5 s6 s7 s8 s9 s10 s11 .un .un) = .ok (mir n A tx) (rS y (.im t) (.im (planD n A)) (.im (mir n A tx)) s4 s5 s6 s7 s8 s9 s10 s11 .un .un) := fun _ _ _ _ _ _ _ _ _ => rfl
    obtain ⟨m1, y1, p1, hm1⟩ := pick_ex y [.int 3, .int 12, .int 60] (by decide) (by decide)
    obtain ⟨mw, rfl, m0, m60⟩ : ∃ mw : Int, m1 = .int mw ∧ 0 ≤ mw ∧ mw ≤ 60 := by
      simp only [List.mem_cons, List.not_mem_nil, or_false] at hm1
      rcases hm1 with rfl | rfl | rfl
      · exact ⟨_, rfl, by decide, by decide⟩
      · exact ⟨_, rfl, by decide, by decide⟩
      · exact ⟨_, rfl, by decide, by decide⟩
    obtain ⟨w, y2, p2, hw, lw⟩ := word_ex y1 n A mw n0 n6 m0 (by omega)
    obtain ⟨sh, y3, p3, hs, ls⟩ := word_ex y2 n A 25 n0 n6 (by decide) (by decide)
    refine seq_ex (ρ1 := rS y3 (.im t) (.im (planD n A)) (.im (mir n A tx)) (.im (.str (wrd w))) (.im (.str (wrd sh))) s6 s7 s8 s9 s10 s11 .un .un) ?_ ?_
    · have q1 : M.callO 0 2 O__law_pick ((((M.ret (D.int 3)).cons ((M.ret (D.int 12)).cons ((M.ret (D.int 60)).cons (M.ret [])))).disp D.lst).cons (M.ret [])) (rS y (.im t) (.im (planD n A)) (.im (mir n A tx)) s4 s5 s6 s7 s8 s9 s10 s11 .un .un) = .ok (.int mw) (rS y1 (.im t) (.im (planD n A)) (.im (mir n A tx)) s4 s5 s6 s7 s8 s9 s10 s11 .un .un) := (callO_ok (n := 2) (t := [.int y.1, .int y.2.1, .int y.2.2]) (ds := [.lst [.int 3, .int 12, .int 60]]) rfl rfl rfl p1).trans rfl
      have q2 : M.callO 0 3 O__law_word ((M.var 2).cons ((M.callO 0 2 O__law_pick ((((M.ret (D.int 3)).cons ((M.ret (D.int 12)).cons ((M.ret (D.int 60)).cons (M.ret [])))).disp D.lst).cons (M.ret []))).cons (M.ret []))) (rS y (.im t) (.im (planD n A)) (.im (mir n A tx)) s4 s5 s6 s7 s8 s9 s10 s11 .un .un) = .ok (.str (wrd w)) (rS y2 (.im t) (.im (planD n A)) (.im (mir n A tx)) s4 s5 s6 s7 s8 s9 s10 s11 .un .un) := (callO_ok2 (n := 3) (t0 := [.int y.1, .int y.2.1, .int y.2.2]) (t := [.int y1.1, .int y1.2.1, .int y1.2.2]) rfl (cons_ok (R y s4 s5 s6 s7 s8 s9 s10 s11) (cons_ok q1 rfl)) rfl rfl p2).trans rfl
      have q3 : M.callO 0 3 O__law_word ((M.var 2).cons ((M.ret (D.int 25)).cons (M.ret []))) (rS y2 (.im t) (.im (planD n A)) (.im (mir n A tx)) s4 s5 s6 s7 s8 s9 s10 s11 .un .un) = .ok (.str (wrd sh)) (rS y3 (.im t) (.im (planD n A)) (.im (mir n A tx)) s4 s5 s6 s7 s8 s9 s10 s11 .un .un) := (callO_ok (n := 3) (t := [.int y2.1, .int y2.2.1, .int y2.2.2]) rfl (cons_ok (R y2 s4 s5 s6 s7 s8 s9 s10 s11) (ds := [D.int 25]) rfl) rfl p3).trans rfl
      exact (bind_okD (cons_ok q2 (cons_ok q3 rfl))).trans rfl
    obtain ⟨m2, y4, p4, hm2⟩ := pick_ex y3 [.int 3, .int (10 ^ 6), .int (10 ^ 40)] (by decide) (by decide)
    obtain ⟨wd, rfl, hwd⟩ : ∃ wd : Int, m2 = .int wd ∧ (wd = 3 ∨ wd = 10 ^ 6 ∨ wd = 10 ^ 40) := by
      simp only [List.mem_cons, List.not_mem_nil, or_false] at hm2
      rcases hm2 with rfl | rfl | rfl
      · exact ⟨_, rfl, .inl rfl⟩
      · exact ⟨_, rfl, .inr (.inl rfl)⟩
      · exact ⟨_, rfl, .inr (.inr rfl)⟩
    refine seq_ex (ρ1 := rS y4 (.im t) (.im (planD n A)) (.im (mir n A tx)) (.im (.str (wrd w))) (.im (.str (wrd sh))) (.im (.int wd)) s7 s8 s9 s10 s11 .un .un) ?_ ?_
    · exact (bind_okD (callO_ok (n := 2) (f := O__law_pick) (ρ := rS y3 (.im t) (.im (planD n A)) (.im (mir n A tx)) (.im (.str (wrd w))) (.im (.str (wrd sh))) s6 s7 s8 s9 s10 s11 .un .un) (t := [.int y3.1, .int y3.2.1, .int y3.2.2]) (ds := [.lst [.int 3, .int (10 ^ 6), .int (10 ^ 40)]]) rfl rfl rfl p4)).trans rfl
    have im' : ∀ d : D, imS (.im d) := fun d => ⟨d, .inl rfl⟩
    have un' : imS .un := ⟨.non, .inr rfl⟩
    have RG : ∀ (y : Tub) (s4 s5 s6 s7 s8 s9 s10 s11 : Sl), ((((M.var 2).two (M.ret (D.int 0)) gIxA).cons (M.ret [])).bind range1) (rS y (.im t) (.im (planD n A)) (.im (mir n A tx)) s4 s5 s6 s7 s8 s9 s10 s11 .un .un) = .ok ((List.range n).map fun (k : Nat) => D.int k) (rS y (.im t) (.im (planD n A)) (.im (mir n A tx)) s4 s5 s6 s7 s8 s9 s10 s11 .un .un) := fun y s4 s5 s6 s7 s8 s9 s10 s11 =>
      (bind_okD (cons_ok ((two_okD (R y s4 s5 s6 s7 s8 s9 s10 s11) (b := D.int 0) rfl).trans (plan_n n A _)) rfl)).trans (rng_eq n n6 _)
    obtain ⟨r, y5, hrow, lr, wr⟩ := row_ex y4 n A wd hwd n6 (.im t) (.im (mir n A tx)) (.im (.str (wrd w))) (.im (.str (wrd sh))) s7 s8 s9 s10 s11 .un (fun s hs => by
      simp only [List.mem_cons, List.not_mem_nil, or_false] at hs
      rcases hs with rfl | rfl | rfl | rfl | rfl | rfl | rfl | rfl | rfl | rfl
      · exact im' _
      · exact im' _
      · exact im' _
      · exact im' _
      · exact i7
      · exact i8
      · exact i9
      · exact i10
      · exact i11
      · exact un')
    refine seq_ex (ρ1 := rS y5 (.im t) (.im (planD n A)) (.im (mir n A tx)) (.im (.str (wrd w))) (.im (.str (wrd sh))) (.im (.int wd)) (.im (rowD r)) s8 s9 s10 s11 .un .un) ?_ ?_
    · exact (bind_okD (a := rowD r) ((bind_okD (cons_ok ((bind_okD (RG y4 _ _ _ _ _ _ _ _)).trans hrow) rfl)).trans rfl)).trans rfl
    obtain ⟨mr, y6, hmore, lm, wm⟩ := more_ex y5 n A n6 (.im t) (.im (mir n A tx)) (.im (.str (wrd w))) (.im (.str (wrd sh))) (.im (.int wd)) (.im (rowD r)) s8 s9 s10 s11 .un (fun s hs => by
      simp only [List.mem_cons, List.not_mem_nil, or_false] at hs
      rcases hs with rfl | rfl | rfl | rfl | rfl | rfl | rfl | rfl | rfl | rfl | rfl
      · exact im' _
      · exact im' _
      · exact im' _
      · exact im' _
      · exact im' _
      · exact im' _
      · exact i8
      · exact i9
      · exact i10
      · exact i11
      · exact un')
    refine seq_ex (ρ1 := rS y6 (.im t) (.im (planD n A)) (.im (mir n A tx)) (.im (.str (wrd w))) (.im (.str (wrd sh))) (.im (.int wd)) (.im (rowD r)) (.im (rowD mr)) s9 s10 s11 .un .un) ?_ ?_
    · exact (bind_okD (a := rowD mr) ((bind_okD (cons_ok ((bind_okD (RG y5 _ _ _ _ _ _ _ _)).trans hmore) rfl)).trans rfl)).trans rfl
    have hA := ok.okA
    have lw60 : w.length ≤ 60 := by omega
    have ls60 : sh.length ≤ 60 := by omega
    have due := sent_eq n A n6 hA w r hw (by omega) lr
    refine seq_ex (ρ1 := rS y6 (.im t) (.im (planD n A)) (.im (mir n A tx)) (.im (.str (wrd w))) (.im (.str (wrd sh))) (.im (.int wd)) (.im (rowD r)) (.im (rowD mr)) (.im (rowD (sendW n A w r))) s10 s11 .un .un) ?_ ?_
    · exact (bind_okD ((bind_okD (cons_ok (R y6 _ _ _ _ _ _ _ _) (cons_ok (d := D.str (wrd w)) (ρ1 := rS y6 (.im t) (.im (planD n A)) (.im (mir n A tx)) (.im (.str (wrd w))) (.im (.str (wrd sh))) (.im (.int wd)) (.im (rowD r)) (.im (rowD mr)) s9 s10 s11 .un .un) rfl (cons_ok (d := rowD r) rfl rfl)))).trans (call_ok rfl due))).trans rfl
    have snd := send_eq n A tx w r n6 hA hw lw60 lr
    have lS := sendW_len n A w r hw lr
    obtain ⟨T1, hT1⟩ := (sm_lst (k := 2) (L := 1300) (m := 2) (ds := [rowD (sendW n A w r), rowD (sendW n A w r)]) (fun d hd => by
      simp only [List.mem_cons, List.not_mem_nil, or_false, or_self] at hd
      subst hd
      exact sm_row (within_send n A w r n6 hw lw60 lr wr) (by omega)) (Nat.le_of_ble_eq_true rfl)).shown (by decide) (by decide)
    have P : ∃ ρ : Sls, ρ = rS y6 (.im t) (.im (planD n A)) (.im (mir n A tx)) (.im (.str (wrd w))) (.im (.str (wrd sh))) (.im (.int wd)) (.im (rowD r)) (.im (rowD mr)) (.im (rowD (sendW n A w r))) s10 s11 .un .un := ⟨_, rfl⟩
    obtain ⟨ρ, hρ⟩ := P
    rw [← hρ]
    have c2 : M.var 2 ρ = .ok (planD n A) ρ := by rw [hρ]; rfl
    have c3 : M.var 3 ρ = .ok (mir n A tx) ρ := by rw [hρ]; rfl
    have c4 : M.var 4 ρ = .ok (.str (wrd w)) ρ := by rw [hρ]; rfl
    have c5 : M.var 5 ρ = .ok (.str (wrd sh)) ρ := by rw [hρ]; rfl
    have c7 : M.var 7 ρ = .ok (rowD r) ρ := by rw [hρ]; rfl
    have c8 : M.var 8 ρ = .ok (rowD mr) ρ := by rw [hρ]; rfl
    have c9 : M.var 9 ρ = .ok (rowD (sendW n A w r)) ρ := by rw [hρ]; rfl
    refine seq_ex (ρ1 := ρ) (if_noD (ne_repr (d := .lst [rowD (sendW n A w r), rowD (sendW n A w r)]) hT1 (ρ1 := ρ) ?_ ?_)) ?_
    · exact disp_ok (cons_ok ((bind_okD (cons_ok c3 (cons_ok c4 (cons_ok c7 rfl)))).trans (call_ok rfl snd)) (cons_ok ((bind_okD (cons_ok c7 (cons_ok c4 (cons_ok c3 rfl)))).trans (callK_ok rfl (call_ok rfl snd))) rfl)) (Nat.le_of_ble_eq_true rfl)
    · exact disp_ok (cons_ok c9 (cons_ok c9 rfl)) (Nat.le_of_ble_eq_true rfl)
    have rws := rows_eq n A tx w n6 hA hw lw60
    have lrw := lrows_eq n A n6 hA w hw (by omega)
    have sR : Sm 3 7822 (.tup ((List.range n).map fun i => rowD (sendW n A w (unit n i)))) := sm_tup (k := 2) (L := 1300) (m := 6) (fun d hd => by
      obtain ⟨i, hi, rfl⟩ := List.mem_map.mp hd
      have hu : within (10 ^ 41) (unit n i) := fun v hv => by
        obtain ⟨j, _, rfl⟩ := List.mem_map.mp hv
        show (if j = i then (1 : Int) else 0).natAbs ≤ _
        split
        · exact (by decide +kernel : (1 : Int).natAbs ≤ 10 ^ 41)
        · exact Nat.zero_le _
      have lu := sendW_len n A w (unit n i) hw (unit_len n i)
      exact sm_row (within_send n A w (unit n i) n6 hw lw60 (unit_len n i) hu) (by omega)) (by rw [List.length_map, List.length_range]; exact n6)
    obtain ⟨T2, hT2⟩ := (sm_lst (k := 3) (L := 7822) (m := 2) (ds := [.tup ((List.range n).map fun i => rowD (sendW n A w (unit n i))), .tup ((List.range n).map fun i => rowD (sendW n A w (unit n i)))]) (fun d hd => by
      simp only [List.mem_cons, List.not_mem_nil, or_false, or_self] at hd
      subst hd
      exact sR) (Nat.le_of_ble_eq_true rfl)).shown (by decide) (by decide)
    refine seq_ex (ρ1 := ρ) (if_noD (ne_repr (d := .lst [.tup ((List.range n).map fun i => rowD (sendW n A w (unit n i))), .tup ((List.range n).map fun i => rowD (sendW n A w (unit n i)))]) hT2 (ρ1 := ρ) ?_ ?_)) ?_
    · exact disp_ok (cons_ok ((bind_okD (cons_ok c3 (cons_ok c4 rfl))).trans (call_ok rfl rws)) (cons_ok ((bind_okD (cons_ok c4 (cons_ok c3 rfl))).trans (callK_ok rfl (call_ok rfl rws))) rfl)) (Nat.le_of_ble_eq_true rfl)
    · exact (two_okD (disp_ok (cons_ok ((bind_okD (cons_ok c2 (cons_ok c4 rfl))).trans (call_ok rfl lrw)) rfl) (Nat.le_of_ble_eq_true rfl)) (b := D.int 2) rfl).trans rfl
    have hz : lineS (wrd sh) = true := by
      unfold lineS
      rw [wrd_len]
      exact decide_eq_true (by omega)
    have rv : ((M.var 5).bind gRev) ρ = .ok (.str (wrd sh.reverse)) ρ := by
      refine (bind_okD c5).trans ?_
      unfold gRev
      dsimp only
      rw [hz, wrd_rev]; rfl
    have hsr : ∀ i ∈ sh.reverse, i < n := fun i hi => hs i (List.mem_reverse.mp hi)
    have lsr := sendW_len n A sh r hs lr
    have snd1 := send_eq n A tx sh r n6 hA hs ls60 lr
    have snd2 := send_eq n A tx sh.reverse (sendW n A sh r) n6 hA hsr (by rw [List.length_reverse]; exact ls60) lsr
    rw [sendW_back n A sh r hs lr] at snd2
    refine seq_ex (ρ1 := ρ) (if_noD ?_) ?_
    · refine (bind_okD (a := D.bl false) (ρ1 := ρ) ((two_okD ((bind_okD (cons_ok c3 (cons_ok rv (cons_ok ((bind_okD (cons_ok c3 (cons_ok c5 (cons_ok c7 rfl)))).trans (call_ok rfl snd1)) rfl)))).trans (call_ok rfl snd2)) c7).trans (ne_row r ρ))).trans rfl
    have rgρ : ((((M.var 2).two (M.ret (D.int 0)) gIxA).cons (M.ret [])).bind range1) ρ = .ok ((List.range n).map fun (k : Nat) => D.int k) ρ := by rw [hρ]; exact RG y6 _ _ _ _ _ _ _ _
    have hnb : ∀ s ∈ [.im t, .im (planD n A), .im (mir n A tx), .im (.str (wrd w)), .im (.str (wrd sh)), .im (.int wd), .im (rowD r), .im (rowD mr), .im (rowD (sendW n A w r)), s10, s11], imS s := fun s hs => by
      simp only [List.mem_cons, List.not_mem_nil, or_false] at hs
      rcases hs with rfl | rfl | rfl | rfl | rfl | rfl | rfl | rfl | rfl | rfl | rfl
      · exact im' _
      · exact im' _
      · exact im' _
      · exact im' _
      · exact im' _
      · exact im' _
      · exact im' _
      · exact im' _
      · exact im' _
      · exact i10
      · exact i11
    obtain ⟨in12, in13, out12, out13⟩ := blk12 y6 hnb
    have lsum := addR_len r mr (by omega)
    have sm : M.comp (List.map (fun x => x.snd) [((Str.ofString "k"), 12)]) (Tg.name 12) (M.ret true) (((M.var 7).two (M.var 12) gIxA).two ((M.var 8).two (M.var 12) gIxA) gAdd) ((List.range n).map fun (k : Nat) => D.int k) ρ = .ok (.lst ((addR r mr).map D.int)) ρ := by
      rw [addR_map n r mr lr lm, List.map_map]
      refine comp_mapI _ (fun k => D.int (r.getD k 0 + mr.getD k 0)) _ (range_len n n6) fun k hk => ?_
      have hk2 := List.mem_range.mp hk
      refine ⟨rS y6 (.im t) (.im (planD n A)) (.im (mir n A tx)) (.im (.str (wrd w))) (.im (.str (wrd sh))) (.im (.int wd)) (.im (rowD r)) (.im (rowD mr)) (.im (rowD (sendW n A w r))) s10 s11 (.im (.int k)) .un, rS y6 (.im t) (.im (planD n A)) (.im (mir n A tx)) (.im (.str (wrd w))) (.im (.str (wrd sh))) (.im (.int wd)) (.im (rowD r)) (.im (rowD mr)) (.im (rowD (sendW n A w r))) s10 s11 (.im (.int k)) .un, rS y6 (.im t) (.im (planD n A)) (.im (mir n A tx)) (.im (.str (wrd w))) (.im (.str (wrd sh))) (.im (.int wd)) (.im (rowD r)) (.im (rowD mr)) (.im (rowD (sendW n A w r))) s10 s11 (.im (.int k)) .un, ?_, rfl, ?_, by rw [hρ]; exact out12 _⟩
      · rw [hρ]
        show (Tg.name 12) _ (inBlk _ [12]) = _
        rw [in12]; rfl
      · have u7 : M.var 7 (rS y6 (.im t) (.im (planD n A)) (.im (mir n A tx)) (.im (.str (wrd w))) (.im (.str (wrd sh))) (.im (.int wd)) (.im (rowD r)) (.im (rowD mr)) (.im (rowD (sendW n A w r))) s10 s11 (.im (.int k)) .un) = .ok (rowD r) (rS y6 (.im t) (.im (planD n A)) (.im (mir n A tx)) (.im (.str (wrd w))) (.im (.str (wrd sh))) (.im (.int wd)) (.im (rowD r)) (.im (rowD mr)) (.im (rowD (sendW n A w r))) s10 s11 (.im (.int k)) .un) := rfl
        have u8 : M.var 8 (rS y6 (.im t) (.im (planD n A)) (.im (mir n A tx)) (.im (.str (wrd w))) (.im (.str (wrd sh))) (.im (.int wd)) (.im (rowD r)) (.im (rowD mr)) (.im (rowD (sendW n A w r))) s10 s11 (.im (.int k)) .un) = .ok (rowD mr) (rS y6 (.im t) (.im (planD n A)) (.im (mir n A tx)) (.im (.str (wrd w))) (.im (.str (wrd sh))) (.im (.int wd)) (.im (rowD r)) (.im (rowD mr)) (.im (rowD (sendW n A w r))) s10 s11 (.im (.int k)) .un) := rfl
        have u12 : M.var 12 (rS y6 (.im t) (.im (planD n A)) (.im (mir n A tx)) (.im (.str (wrd w))) (.im (.str (wrd sh))) (.im (.int wd)) (.im (rowD r)) (.im (rowD mr)) (.im (rowD (sendW n A w r))) s10 s11 (.im (.int k)) .un) = .ok (.int k) (rS y6 (.im t) (.im (planD n A)) (.im (mir n A tx)) (.im (.str (wrd w))) (.im (.str (wrd sh))) (.im (.int wd)) (.im (rowD r)) (.im (rowD mr)) (.im (rowD (sendW n A w r))) s10 s11 (.im (.int k)) .un) := rfl
        exact (two_okD ((two_okD u7 u12).trans (ix_row r k (by omega) _)) ((two_okD u8 u12).trans (ix_row mr k (by omega) _))).trans rfl
    refine seq_ex (ρ1 := rS y6 (.im t) (.im (planD n A)) (.im (mir n A tx)) (.im (.str (wrd w))) (.im (.str (wrd sh))) (.im (.int wd)) (.im (rowD r)) (.im (rowD mr)) (.im (rowD (sendW n A w r))) (.im (rowD (addR r mr))) s11 .un .un) ?_ ?_
    · exact (bind_okD (a := rowD (addR r mr)) ((bind_okD (cons_ok ((bind_okD rgρ).trans sm) rfl)).trans rfl)).trans (by rw [hρ]; rfl)
    have lsm := sendW_len n A sh mr hs lm
    have snm := send_eq n A tx sh mr n6 hA hs ls60 lm
    have sns := send_eq n A tx sh (addR r mr) n6 hA hs ls60 (by rw [lsum]; exact lr)
    rw [sendW_add n A sh r mr hs lr lm] at sns
    refine seq_ex (ρ1 := rS y6 (.im t) (.im (planD n A)) (.im (mir n A tx)) (.im (.str (wrd w))) (.im (.str (wrd sh))) (.im (.int wd)) (.im (rowD r)) (.im (rowD mr)) (.im (rowD (sendW n A w r))) (.im (rowD (addR r mr))) (.im (.lst [rowD (sendW n A sh r), rowD (sendW n A sh mr)])) .un .un) ?_ ?_
    · have w3 : M.var 3 (rS y6 (.im t) (.im (planD n A)) (.im (mir n A tx)) (.im (.str (wrd w))) (.im (.str (wrd sh))) (.im (.int wd)) (.im (rowD r)) (.im (rowD mr)) (.im (rowD (sendW n A w r))) (.im (rowD (addR r mr))) s11 .un .un) = .ok (mir n A tx) (rS y6 (.im t) (.im (planD n A)) (.im (mir n A tx)) (.im (.str (wrd w))) (.im (.str (wrd sh))) (.im (.int wd)) (.im (rowD r)) (.im (rowD mr)) (.im (rowD (sendW n A w r))) (.im (rowD (addR r mr))) s11 .un .un) := rfl
      have w5 : M.var 5 (rS y6 (.im t) (.im (planD n A)) (.im (mir n A tx)) (.im (.str (wrd w))) (.im (.str (wrd sh))) (.im (.int wd)) (.im (rowD r)) (.im (rowD mr)) (.im (rowD (sendW n A w r))) (.im (rowD (addR r mr))) s11 .un .un) = .ok (.str (wrd sh)) (rS y6 (.im t) (.im (planD n A)) (.im (mir n A tx)) (.im (.str (wrd w))) (.im (.str (wrd sh))) (.im (.int wd)) (.im (rowD r)) (.im (rowD mr)) (.im (rowD (sendW n A w r))) (.im (rowD (addR r mr))) s11 .un .un) := rfl
      have w7 : M.var 7 (rS y6 (.im t) (.im (planD n A)) (.im (mir n A tx)) (.im (.str (wrd w))) (.im (.str (wrd sh))) (.im (.int wd)) (.im (rowD r)) (.im (rowD mr)) (.im (rowD (sendW n A w r))) (.im (rowD (addR r mr))) s11 .un .un) = .ok (rowD r) (rS y6 (.im t) (.im (planD n A)) (.im (mir n A tx)) (.im (.str (wrd w))) (.im (.str (wrd sh))) (.im (.int wd)) (.im (rowD r)) (.im (rowD mr)) (.im (rowD (sendW n A w r))) (.im (rowD (addR r mr))) s11 .un .un) := rfl
      have w8 : M.var 8 (rS y6 (.im t) (.im (planD n A)) (.im (mir n A tx)) (.im (.str (wrd w))) (.im (.str (wrd sh))) (.im (.int wd)) (.im (rowD r)) (.im (rowD mr)) (.im (rowD (sendW n A w r))) (.im (rowD (addR r mr))) s11 .un .un) = .ok (rowD mr) (rS y6 (.im t) (.im (planD n A)) (.im (mir n A tx)) (.im (.str (wrd w))) (.im (.str (wrd sh))) (.im (.int wd)) (.im (rowD r)) (.im (rowD mr)) (.im (rowD (sendW n A w r))) (.im (rowD (addR r mr))) s11 .un .un) := rfl
      exact (bind_okD (disp_ok (cons_ok ((bind_okD (cons_ok w3 (cons_ok w5 (cons_ok w7 rfl)))).trans (call_ok rfl snd1)) (cons_ok ((bind_okD (cons_ok w3 (cons_ok w5 (cons_ok w8 rfl)))).trans (call_ok rfl snm)) rfl)) (Nat.le_of_ble_eq_true rfl))).trans rfl
    obtain ⟨in12', in13', out12', out13'⟩ := blk12 y6 (s1 := .im t) (s2 := .im (planD n A)) (s3 := .im (mir n A tx)) (s4 := .im (.str (wrd w))) (s5 := .im (.str (wrd sh))) (s6 := .im (.int wd)) (s7 := .im (rowD r)) (s8 := .im (rowD mr)) (s9 := .im (rowD (sendW n A w r))) (s10 := .im (rowD (addR r mr))) (s11 := .im (.lst [rowD (sendW n A sh r), rowD (sendW n A sh mr)])) (fun s hs => by
      simp only [List.mem_cons, List.not_mem_nil, or_false] at hs
      rcases hs with rfl | rfl | rfl | rfl | rfl | rfl | rfl | rfl | rfl | rfl | rfl <;> exact im' _)
    have w3 : M.var 3 (rS y6 (.im t) (.im (planD n A)) (.im (mir n A tx)) (.im (.str (wrd w))) (.im (.str (wrd sh))) (.im (.int wd)) (.im (rowD r)) (.im (rowD mr)) (.im (rowD (sendW n A w r))) (.im (rowD (addR r mr))) (.im (.lst [rowD (sendW n A sh r), rowD (sendW n A sh mr)])) .un .un) = .ok (mir n A tx) (rS y6 (.im t) (.im (planD n A)) (.im (mir n A tx)) (.im (.str (wrd w))) (.im (.str (wrd sh))) (.im (.int wd)) (.im (rowD r)) (.im (rowD mr)) (.im (rowD (sendW n A w r))) (.im (rowD (addR r mr))) (.im (.lst [rowD (sendW n A sh r), rowD (sendW n A sh mr)])) .un .un) := rfl
    have w4 : M.var 5 (rS y6 (.im t) (.im (planD n A)) (.im (mir n A tx)) (.im (.str (wrd w))) (.im (.str (wrd sh))) (.im (.int wd)) (.im (rowD r)) (.im (rowD mr)) (.im (rowD (sendW n A w r))) (.im (rowD (addR r mr))) (.im (.lst [rowD (sendW n A sh r), rowD (sendW n A sh mr)])) .un .un) = .ok (.str (wrd sh)) (rS y6 (.im t) (.im (planD n A)) (.im (mir n A tx)) (.im (.str (wrd w))) (.im (.str (wrd sh))) (.im (.int wd)) (.im (rowD r)) (.im (rowD mr)) (.im (rowD (sendW n A w r))) (.im (rowD (addR r mr))) (.im (.lst [rowD (sendW n A sh r), rowD (sendW n A sh mr)])) .un .un) := rfl
    have w10 : M.var 10 (rS y6 (.im t) (.im (planD n A)) (.im (mir n A tx)) (.im (.str (wrd w))) (.im (.str (wrd sh))) (.im (.int wd)) (.im (rowD r)) (.im (rowD mr)) (.im (rowD (sendW n A w r))) (.im (rowD (addR r mr))) (.im (.lst [rowD (sendW n A sh r), rowD (sendW n A sh mr)])) .un .un) = .ok (rowD (addR r mr)) (rS y6 (.im t) (.im (planD n A)) (.im (mir n A tx)) (.im (.str (wrd w))) (.im (.str (wrd sh))) (.im (.int wd)) (.im (rowD r)) (.im (rowD mr)) (.im (rowD (sendW n A w r))) (.im (rowD (addR r mr))) (.im (.lst [rowD (sendW n A sh r), rowD (sendW n A sh mr)])) .un .un) := rfl
    have sm2 : M.comp (List.map (fun x => x.snd) [((Str.ofString "k"), 12)]) (Tg.name 12) (M.ret true) ((((M.var 11).two (M.ret (D.int 0)) gIxA).two (M.var 12) gIxA).two (((M.var 11).two (M.ret (D.int 1)) gIxA).two (M.var 12) gIxA) gAdd) ((List.range n).map fun (k : Nat) => D.int k) (rS y6 (.im t) (.im (planD n A)) (.im (mir n A tx)) (.im (.str (wrd w))) (.im (.str (wrd sh))) (.im (.int wd)) (.im (rowD r)) (.im (rowD mr)) (.im (rowD (sendW n A w r))) (.im (rowD (addR r mr))) (.im (.lst [rowD (sendW n A sh r), rowD (sendW n A sh mr)])) .un .un) = .ok (.lst ((addR (sendW n A sh r) (sendW n A sh mr)).map D.int)) (rS y6 (.im t) (.im (planD n A)) (.im (mir n A tx)) (.im (.str (wrd w))) (.im (.str (wrd sh))) (.im (.int wd)) (.im (rowD r)) (.im (rowD mr)) (.im (rowD (sendW n A w r))) (.im (rowD (addR r mr))) (.im (.lst [rowD (sendW n A sh r), rowD (sendW n A sh mr)])) .un .un) := by
      rw [addR_map n _ _ lsr lsm, List.map_map]
      refine comp_mapI _ (fun k => D.int ((sendW n A sh r).getD k 0 + (sendW n A sh mr).getD k 0)) _ (range_len n n6) fun k hk => ?_
      have hk2 := List.mem_range.mp hk
      refine ⟨rS y6 (.im t) (.im (planD n A)) (.im (mir n A tx)) (.im (.str (wrd w))) (.im (.str (wrd sh))) (.im (.int wd)) (.im (rowD r)) (.im (rowD mr)) (.im (rowD (sendW n A w r))) (.im (rowD (addR r mr))) (.im (.lst [rowD (sendW n A sh r), rowD (sendW n A sh mr)])) (.im (.int k)) .un, rS y6 (.im t) (.im (planD n A)) (.im (mir n A tx)) (.im (.str (wrd w))) (.im (.str (wrd sh))) (.im (.int wd)) (.im (rowD r)) (.im (rowD mr)) (.im (rowD (sendW n A w r))) (.im (rowD (addR r mr))) (.im (.lst [rowD (sendW n A sh r), rowD (sendW n A sh mr)])) (.im (.int k)) .un, rS y6 (.im t) (.im (planD n A)) (.im (mir n A tx)) (.im (.str (wrd w))) (.im (.str (wrd sh))) (.im (.int wd)) (.im (rowD r)) (.im (rowD mr)) (.im (rowD (sendW n A w r))) (.im (rowD (addR r mr))) (.im (.lst [rowD (sendW n A sh r), rowD (sendW n A sh mr)])) (.im (.int k)) .un, ?_, rfl, ?_, out12' _⟩
      · show (Tg.name 12) _ (inBlk _ [12]) = _
        rw [in12']; rfl
      · have u11 : M.var 11 (rS y6 (.im t) (.im (planD n A)) (.im (mir n A tx)) (.im (.str (wrd w))) (.im (.str (wrd sh))) (.im (.int wd)) (.im (rowD r)) (.im (rowD mr)) (.im (rowD (sendW n A w r))) (.im (rowD (addR r mr))) (.im (.lst [rowD (sendW n A sh r), rowD (sendW n A sh mr)])) (.im (.int k)) .un) = .ok (.lst [rowD (sendW n A sh r), rowD (sendW n A sh mr)]) (rS y6 (.im t) (.im (planD n A)) (.im (mir n A tx)) (.im (.str (wrd w))) (.im (.str (wrd sh))) (.im (.int wd)) (.im (rowD r)) (.im (rowD mr)) (.im (rowD (sendW n A w r))) (.im (rowD (addR r mr))) (.im (.lst [rowD (sendW n A sh r), rowD (sendW n A sh mr)])) (.im (.int k)) .un) := rfl
        have u12 : M.var 12 (rS y6 (.im t) (.im (planD n A)) (.im (mir n A tx)) (.im (.str (wrd w))) (.im (.str (wrd sh))) (.im (.int wd)) (.im (rowD r)) (.im (rowD mr)) (.im (rowD (sendW n A w r))) (.im (rowD (addR r mr))) (.im (.lst [rowD (sendW n A sh r), rowD (sendW n A sh mr)])) (.im (.int k)) .un) = .ok (.int k) (rS y6 (.im t) (.im (planD n A)) (.im (mir n A tx)) (.im (.str (wrd w))) (.im (.str (wrd sh))) (.im (.int wd)) (.im (rowD r)) (.im (rowD mr)) (.im (rowD (sendW n A w r))) (.im (rowD (addR r mr))) (.im (.lst [rowD (sendW n A sh r), rowD (sendW n A sh mr)])) (.im (.int k)) .un) := rfl
        exact (two_okD ((two_okD ((two_okD u11 (b := D.int 0) rfl).trans (show gIxA (.lst [rowD (sendW n A sh r), rowD (sendW n A sh mr)]) (.int 0) _ = .ok (rowD (sendW n A sh r)) _ from rfl)) u12).trans (ix_row _ k (by omega) _)) ((two_okD ((two_okD u11 (b := D.int 1) rfl).trans (show gIxA (.lst [rowD (sendW n A sh r), rowD (sendW n A sh mr)]) (.int 1) _ = .ok (rowD (sendW n A sh mr)) _ from rfl)) u12).trans (ix_row _ k (by omega) _))).trans rfl
    refine seq_ex (ρ1 := rS y6 (.im t) (.im (planD n A)) (.im (mir n A tx)) (.im (.str (wrd w))) (.im (.str (wrd sh))) (.im (.int wd)) (.im (rowD r)) (.im (rowD mr)) (.im (rowD (sendW n A w r))) (.im (rowD (addR r mr))) (.im (.lst [rowD (sendW n A sh r), rowD (sendW n A sh mr)])) .un .un) (if_noD ?_) ?_
    · refine (bind_okD (a := D.bl false) (ρ1 := rS y6 (.im t) (.im (planD n A)) (.im (mir n A tx)) (.im (.str (wrd w))) (.im (.str (wrd sh))) (.im (.int wd)) (.im (rowD r)) (.im (rowD mr)) (.im (rowD (sendW n A w r))) (.im (rowD (addR r mr))) (.im (.lst [rowD (sendW n A sh r), rowD (sendW n A sh mr)])) .un .un) ((two_okD ((bind_okD (cons_ok w3 (cons_ok w4 (cons_ok w10 rfl)))).trans (call_ok rfl sns)) (b := rowD (addR (sendW n A sh r) (sendW n A sh mr))) (ρ2 := rS y6 (.im t) (.im (planD n A)) (.im (mir n A tx)) (.im (.str (wrd w))) (.im (.str (wrd sh))) (.im (.int wd)) (.im (rowD r)) (.im (rowD mr)) (.im (rowD (sendW n A w r))) (.im (rowD (addR r mr))) (.im (.lst [rowD (sendW n A sh r), rowD (sendW n A sh mr)])) .un .un) ((bind_okD (cons_ok ((bind_okD (RG y6 _ _ _ _ _ _ _ _)).trans sm2) rfl)).trans rfl)).trans (ne_row _ _))).trans rfl
    have rsh := rows_eq n A tx sh n6 hA hs ls60
    have it7 : (((((M.var 3).cons ((M.var 5).cons (M.ret []))).bind (M.call 2 F_rows_of)).bind itemsK)) (rS y6 (.im t) (.im (planD n A)) (.im (mir n A tx)) (.im (.str (wrd w))) (.im (.str (wrd sh))) (.im (.int wd)) (.im (rowD r)) (.im (rowD mr)) (.im (rowD (sendW n A w r))) (.im (rowD (addR r mr))) (.im (.lst [rowD (sendW n A sh r), rowD (sendW n A sh mr)])) .un .un) = .ok ((List.range n).map fun i => rowD (sendW n A sh (unit n i))) (rS y6 (.im t) (.im (planD n A)) (.im (mir n A tx)) (.im (.str (wrd w))) (.im (.str (wrd sh))) (.im (.int wd)) (.im (rowD r)) (.im (rowD mr)) (.im (rowD (sendW n A w r))) (.im (rowD (addR r mr))) (.im (.lst [rowD (sendW n A sh r), rowD (sendW n A sh mr)])) .un .un) := (bind_okD ((bind_okD (cons_ok w3 (cons_ok w4 rfl))).trans (call_ok rfl rsh))).trans rfl
    have cm7 : M.comp (List.map (fun x => x.snd) [((Str.ofString "each"), 13)]) (Tg.name 13) ((((((M.var 13).cons (M.ret [])).bind (g1 min1D)).two (M.ret (D.int 0)) gLt).bind M.tb).and (((((M.var 13).cons (M.ret [])).bind (g1 max1D)).two (M.ret (D.int 0)) gGt).bind M.tb)) (M.var 13) ((List.range n).map fun i => rowD (sendW n A sh (unit n i))) (rS y6 (.im t) (.im (planD n A)) (.im (mir n A tx)) (.im (.str (wrd w))) (.im (.str (wrd sh))) (.im (.int wd)) (.im (rowD r)) (.im (rowD mr)) (.im (rowD (sendW n A w r))) (.im (rowD (addR r mr))) (.im (.lst [rowD (sendW n A sh r), rowD (sendW n A sh mr)])) .un .un) = .ok (.lst []) (rS y6 (.im t) (.im (planD n A)) (.im (mir n A tx)) (.im (.str (wrd w))) (.im (.str (wrd sh))) (.im (.int wd)) (.im (rowD r)) (.im (rowD mr)) (.im (rowD (sendW n A w r))) (.im (rowD (addR r mr))) (.im (.lst [rowD (sendW n A sh r), rowD (sendW n A sh mr)])) .un .un) := by
      unfold M.comp
      refine (bind_okD (a := []) (ρ1 := rS y6 (.im t) (.im (planD n A)) (.im (mir n A tx)) (.im (.str (wrd w))) (.im (.str (wrd sh))) (.im (.int wd)) (.im (rowD r)) (.im (rowD mr)) (.im (rowD (sendW n A w r))) (.im (rowD (addR r mr))) (.im (.lst [rowD (sendW n A sh r), rowD (sendW n A sh mr)])) .un .un) ?_).trans rfl
      refine (compL_filter (fun _ => false) id _ [] (by rw [List.length_map, List.length_range]; show 0 + n ≤ _; omega) fun d hd => ?_).trans ?_
      · obtain ⟨i, hi, rfl⟩ := List.mem_map.mp hd
        have hi2 := List.mem_range.mp hi
        have lS := sendW_len n A sh (unit n i) hs (unit_len n i)
        refine ⟨rS y6 (.im t) (.im (planD n A)) (.im (mir n A tx)) (.im (.str (wrd w))) (.im (.str (wrd sh))) (.im (.int wd)) (.im (rowD r)) (.im (rowD mr)) (.im (rowD (sendW n A w r))) (.im (rowD (addR r mr))) (.im (.lst [rowD (sendW n A sh r), rowD (sendW n A sh mr)])) .un (.im (rowD (sendW n A sh (unit n i)))), rS y6 (.im t) (.im (planD n A)) (.im (mir n A tx)) (.im (.str (wrd w))) (.im (.str (wrd sh))) (.im (.int wd)) (.im (rowD r)) (.im (rowD mr)) (.im (rowD (sendW n A w r))) (.im (rowD (addR r mr))) (.im (.lst [rowD (sendW n A sh r), rowD (sendW n A sh mr)])) .un (.im (rowD (sendW n A sh (unit n i)))), ?_, ?_, fun q => (by cases q), fun _ => out13' _⟩
        · show (Tg.name 13) _ (inBlk _ [13]) = _
          rw [in13']; rfl
        · exact sign_test _ (fun z => by rw [z] at lS; simp at lS; omega) (root_sign n A hA sh i hs hi2) _ rfl
      · simp
    obtain ⟨ρ2, e2⟩ : ∃ ρ2, ρ2 = rS y6 (.im t) (.im (planD n A)) (.im (mir n A tx)) (.im (.str (wrd w))) (.im (.str (wrd sh))) (.im (.int wd)) (.im (rowD r)) (.im (rowD mr)) (.im (rowD (sendW n A w r))) (.im (rowD (addR r mr))) (.im (.lst [rowD (sendW n A sh r), rowD (sendW n A sh mr)])) .un .un := ⟨_, rfl⟩
    refine ⟨rS y6 (.im t) (.im (planD n A)) (.im (mir n A tx)) (.im (.str (wrd w))) (.im (.str (wrd sh))) (.im (.int wd)) (.im (rowD r)) (.im (rowD mr)) (.im (rowD (sendW n A w r))) (.im (rowD (addR r mr))) (.im (.lst [rowD (sendW n A sh r), rowD (sendW n A sh mr)])) .un .un, if_noD ?_, ?_⟩
    · refine (bind_okD (a := D.bl false) (ρ1 := rS y6 (.im t) (.im (planD n A)) (.im (mir n A tx)) (.im (.str (wrd w))) (.im (.str (wrd sh))) (.im (.int wd)) (.im (rowD r)) (.im (rowD mr)) (.im (rowD (sendW n A w r))) (.im (rowD (addR r mr))) (.im (.lst [rowD (sendW n A sh r), rowD (sendW n A sh mr)])) .un .un) ((two_okD ((bind_okD it7).trans cm7) (b := D.lst []) (ρ2 := rS y6 (.im t) (.im (planD n A)) (.im (mir n A tx)) (.im (.str (wrd w))) (.im (.str (wrd sh))) (.im (.int wd)) (.im (rowD r)) (.im (rowD mr)) (.im (rowD (sendW n A w r))) (.im (rowD (addR r mr))) (.im (.lst [rowD (sendW n A sh r), rowD (sendW n A sh mr)])) .un .un) rfl).trans (ne_nil _))).trans rfl
    · exact ⟨y6, _, _, _, _, _, _, _, _, _, _, _, rfl, fun s hs => by
        simp only [List.mem_cons, List.not_mem_nil, or_false] at hs
        rcases hs with rfl | rfl | rfl | rfl | rfl | rfl | rfl | rfl | rfl | rfl | rfl <;> exact im' _⟩
  · obtain ⟨x, s1, s2, s3, s4, s5, s6, s7, s8, s9, s10, s11, rfl, nb⟩ := hp
    exact ⟨tubD x, rfl⟩

/-! K05_MW -/
theorem law_true (ns : List Int) (hn : ns.length ≤ 63) : F_law [.rol (ns.map .int)] = .ok (.bl true) := law_of right_eq ns hn

end KX

set_option Elab.async false
open PySem PySem.W PyProof.Rows
set_option maxRecDepth 100000 in
set_option maxHeartbeats 0 in
open_top hd for PySem.Challenge.rw_braidwords_k05_whole_rows_sent

set_option Elab.async false
set_option linter.all false
set_option maxRecDepth 100000
set_option maxHeartbeats 0
open PySem PySem.W PyProof.Rows
theorem KX.v_x_InvalidText (w : World) (mg : Str → Option Value) (h : Heap) (Kin : (hd.heap_39 w.params).In h) (G : h.Ns mainGlobals mg) : DL.XcB (PySem.Challenge.rw_braidwords_k05_whole_rows_sent).prog w (hd.heap_39 w.params) mg h "InvalidText" 1 (DL.fD1 "given") ∧ DL.XkB (PySem.Challenge.rw_braidwords_k05_whole_rows_sent).prog w (hd.heap_39 w.params) mg h "InvalidText" 1 ["given"] [0] (DL.fD1 "given") := by
      refine' DL.xck1_of (st := (DL.metOf PySem.Challenge.pw_braidwords_k05_whole_rows_sent 2 0)) (PySem.W.mg_of Kin G ?aC) (DL.xcls_of DL.xb_Value ?q ?ov ?sa ?iC ?tI ?kC ?ga ?gg ?ex ?hd) ?ty ?hno ?lk ?c ?k ?S ?hb ?hbd ?hbk ?hs ?hc
      (case aC => k_is); (case iC => k_is); (case q => kx_is); (case ov => kx_is); (case sa => k_is); (case tI => k_is); (case kC => k_is); (case ga => k_is); (case gg => k_is); (case ex => k_is); (case hd => k_is); (case ty => k_is)
      (case hno => k_is)
      (case lk => k_is); (case c => k_is); (case k => k_is)
      (case S => exact ⟨by kernel_rfl, by kernel_rfl, by kernel_rfl, by decide, rfl, by decide +kernel, by decide +kernel⟩)
      (case hb => rfl)
      (case hbd => intro kV doc pm an cdv ct us hl; match us, hl with | [a, b], _ => rfl)
      (case hbk => intro kV doc pm an cdv ct us ws hl hl2; match us, ws, hl, hl2 with | [a], [b], _, _ => rfl)
      (case hs => decide); (case hc => decide)
theorem KX.v_x_InvalidNumber (w : World) (mg : Str → Option Value) (h : Heap) (Kin : (hd.heap_39 w.params).In h) (G : h.Ns mainGlobals mg) : DL.XcB (PySem.Challenge.rw_braidwords_k05_whole_rows_sent).prog w (hd.heap_39 w.params) mg h "InvalidNumber" 1 (DL.fD1 "given") ∧ DL.XkB (PySem.Challenge.rw_braidwords_k05_whole_rows_sent).prog w (hd.heap_39 w.params) mg h "InvalidNumber" 1 ["given"] [0] (DL.fD1 "given") := by
      refine' DL.xck1_of (st := (DL.metOf PySem.Challenge.pw_braidwords_k05_whole_rows_sent 3 0)) (PySem.W.mg_of Kin G ?aC) (DL.xcls_of DL.xb_Value ?q ?ov ?sa ?iC ?tI ?kC ?ga ?gg ?ex ?hd) ?ty ?hno ?lk ?c ?k ?S ?hb ?hbd ?hbk ?hs ?hc
      (case aC => k_is); (case iC => k_is); (case q => kx_is); (case ov => kx_is); (case sa => k_is); (case tI => k_is); (case kC => k_is); (case ga => k_is); (case gg => k_is); (case ex => k_is); (case hd => k_is); (case ty => k_is)
      (case hno => k_is)
      (case lk => k_is); (case c => k_is); (case k => k_is)
      (case S => exact ⟨by kernel_rfl, by kernel_rfl, by kernel_rfl, by decide, rfl, by decide +kernel, by decide +kernel⟩)
      (case hb => rfl)
      (case hbd => intro kV doc pm an cdv ct us hl; match us, hl with | [a, b], _ => rfl)
      (case hbk => intro kV doc pm an cdv ct us ws hl hl2; match us, ws, hl, hl2 with | [a], [b], _, _ => rfl)
      (case hs => decide); (case hc => decide)
theorem KX.v_x_InvalidWord (w : World) (mg : Str → Option Value) (h : Heap) (Kin : (hd.heap_39 w.params).In h) (G : h.Ns mainGlobals mg) : DL.XcB (PySem.Challenge.rw_braidwords_k05_whole_rows_sent).prog w (hd.heap_39 w.params) mg h "InvalidWord" 1 (DL.fD1 "given") ∧ DL.XkB (PySem.Challenge.rw_braidwords_k05_whole_rows_sent).prog w (hd.heap_39 w.params) mg h "InvalidWord" 1 ["given"] [0] (DL.fD1 "given") := by
      refine' DL.xck1_of (st := (DL.metOf PySem.Challenge.pw_braidwords_k05_whole_rows_sent 4 0)) (PySem.W.mg_of Kin G ?aC) (DL.xcls_of DL.xb_Value ?q ?ov ?sa ?iC ?tI ?kC ?ga ?gg ?ex ?hd) ?ty ?hno ?lk ?c ?k ?S ?hb ?hbd ?hbk ?hs ?hc
      (case aC => k_is); (case iC => k_is); (case q => kx_is); (case ov => kx_is); (case sa => k_is); (case tI => k_is); (case kC => k_is); (case ga => k_is); (case gg => k_is); (case ex => k_is); (case hd => k_is); (case ty => k_is)
      (case hno => k_is)
      (case lk => k_is); (case c => k_is); (case k => k_is)
      (case S => exact ⟨by kernel_rfl, by kernel_rfl, by kernel_rfl, by decide, rfl, by decide +kernel, by decide +kernel⟩)
      (case hb => rfl)
      (case hbd => intro kV doc pm an cdv ct us hl; match us, hl with | [a, b], _ => rfl)
      (case hbk => intro kV doc pm an cdv ct us ws hl hl2; match us, ws, hl, hl2 with | [a], [b], _, _ => rfl)
      (case hs => decide); (case hc => decide)
theorem KX.v_x_NotMirrors (w : World) (mg : Str → Option Value) (h : Heap) (Kin : (hd.heap_39 w.params).In h) (G : h.Ns mainGlobals mg) : DL.XcB (PySem.Challenge.rw_braidwords_k05_whole_rows_sent).prog w (hd.heap_39 w.params) mg h "NotMirrors" 1 (DL.fD1 "given") ∧ DL.XkB (PySem.Challenge.rw_braidwords_k05_whole_rows_sent).prog w (hd.heap_39 w.params) mg h "NotMirrors" 1 ["given"] [0] (DL.fD1 "given") := by
      refine' DL.xck1_of (st := (DL.metOf PySem.Challenge.pw_braidwords_k05_whole_rows_sent 5 0)) (PySem.W.mg_of Kin G ?aC) (DL.xcls_of DL.xb_Value ?q ?ov ?sa ?iC ?tI ?kC ?ga ?gg ?ex ?hd) ?ty ?hno ?lk ?c ?k ?S ?hb ?hbd ?hbk ?hs ?hc
      (case aC => k_is); (case iC => k_is); (case q => kx_is); (case ov => kx_is); (case sa => k_is); (case tI => k_is); (case kC => k_is); (case ga => k_is); (case gg => k_is); (case ex => k_is); (case hd => k_is); (case ty => k_is)
      (case hno => k_is)
      (case lk => k_is); (case c => k_is); (case k => k_is)
      (case S => exact ⟨by kernel_rfl, by kernel_rfl, by kernel_rfl, by decide, rfl, by decide +kernel, by decide +kernel⟩)
      (case hb => rfl)
      (case hbd => intro kV doc pm an cdv ct us hl; match us, hl with | [a, b], _ => rfl)
      (case hbk => intro kV doc pm an cdv ct us ws hl hl2; match us, ws, hl, hl2 with | [a], [b], _, _ => rfl)
      (case hs => decide); (case hc => decide)
theorem KX.v_x_InvalidAngles (w : World) (mg : Str → Option Value) (h : Heap) (Kin : (hd.heap_39 w.params).In h) (G : h.Ns mainGlobals mg) : DL.XcB (PySem.Challenge.rw_braidwords_k05_whole_rows_sent).prog w (hd.heap_39 w.params) mg h "InvalidAngles" 1 (DL.fD1 "index") ∧ DL.XkB (PySem.Challenge.rw_braidwords_k05_whole_rows_sent).prog w (hd.heap_39 w.params) mg h "InvalidAngles" 1 ["index"] [0] (DL.fD1 "index") := by
      refine' DL.xck1_of (st := (DL.metOf PySem.Challenge.pw_braidwords_k05_whole_rows_sent 6 0)) (PySem.W.mg_of Kin G ?aC) (DL.xcls_of DL.xb_Value ?q ?ov ?sa ?iC ?tI ?kC ?ga ?gg ?ex ?hd) ?ty ?hno ?lk ?c ?k ?S ?hb ?hbd ?hbk ?hs ?hc
      (case aC => k_is); (case iC => k_is); (case q => kx_is); (case ov => kx_is); (case sa => k_is); (case tI => k_is); (case kC => k_is); (case ga => k_is); (case gg => k_is); (case ex => k_is); (case hd => k_is); (case ty => k_is)
      (case hno => k_is)
      (case lk => k_is); (case c => k_is); (case k => k_is)
      (case S => exact ⟨by kernel_rfl, by kernel_rfl, by kernel_rfl, by decide, rfl, by decide +kernel, by decide +kernel⟩)
      (case hb => rfl)
      (case hbd => intro kV doc pm an cdv ct us hl; match us, hl with | [a, b], _ => rfl)
      (case hbk => intro kV doc pm an cdv ct us ws hl hl2; match us, ws, hl, hl2 with | [a], [b], _, _ => rfl)
      (case hs => decide); (case hc => decide)
theorem KX.v_x_InvalidRow (w : World) (mg : Str → Option Value) (h : Heap) (Kin : (hd.heap_39 w.params).In h) (G : h.Ns mainGlobals mg) : DL.XcB (PySem.Challenge.rw_braidwords_k05_whole_rows_sent).prog w (hd.heap_39 w.params) mg h "InvalidRow" 1 (DL.fD1 "index") ∧ DL.XkB (PySem.Challenge.rw_braidwords_k05_whole_rows_sent).prog w (hd.heap_39 w.params) mg h "InvalidRow" 1 ["index"] [0] (DL.fD1 "index") := by
      refine' DL.xck1_of (st := (DL.metOf PySem.Challenge.pw_braidwords_k05_whole_rows_sent 7 0)) (PySem.W.mg_of Kin G ?aC) (DL.xcls_of DL.xb_Value ?q ?ov ?sa ?iC ?tI ?kC ?ga ?gg ?ex ?hd) ?ty ?hno ?lk ?c ?k ?S ?hb ?hbd ?hbk ?hs ?hc
      (case aC => k_is); (case iC => k_is); (case q => kx_is); (case ov => kx_is); (case sa => k_is); (case tI => k_is); (case kC => k_is); (case ga => k_is); (case gg => k_is); (case ex => k_is); (case hd => k_is); (case ty => k_is)
      (case hno => k_is)
      (case lk => k_is); (case c => k_is); (case k => k_is)
      (case S => exact ⟨by kernel_rfl, by kernel_rfl, by kernel_rfl, by decide, rfl, by decide +kernel, by decide +kernel⟩)
      (case hb => rfl)
      (case hbd => intro kV doc pm an cdv ct us hl; match us, hl with | [a, b], _ => rfl)
      (case hbk => intro kV doc pm an cdv ct us ws hl hl2; match us, ws, hl, hl2 with | [a], [b], _, _ => rfl)
      (case hs => decide); (case hc => decide)
theorem KX.v_n_isinstance (w : World) (mg : Str → Option Value) (h : Heap) (Kin : (hd.heap_39 w.params).In h) (G : h.Ns mainGlobals mg) : mg "isinstance" = none := by
  exact PySem.W.mg_none_of Kin G (by k_is)
theorem KX.v_n_len (w : World) (mg : Str → Option Value) (h : Heap) (Kin : (hd.heap_39 w.params).In h) (G : h.Ns mainGlobals mg) : mg "len" = none := by
  exact PySem.W.mg_none_of Kin G (by k_is)
theorem KX.v_n_str (w : World) (mg : Str → Option Value) (h : Heap) (Kin : (hd.heap_39 w.params).In h) (G : h.Ns mainGlobals mg) : mg "str" = none := by
  exact PySem.W.mg_none_of Kin G (by k_is)
theorem KX.v_n_bool (w : World) (mg : Str → Option Value) (h : Heap) (Kin : (hd.heap_39 w.params).In h) (G : h.Ns mainGlobals mg) : mg "bool" = none := by
  exact PySem.W.mg_none_of Kin G (by k_is)
theorem KX.v_n_int (w : World) (mg : Str → Option Value) (h : Heap) (Kin : (hd.heap_39 w.params).In h) (G : h.Ns mainGlobals mg) : mg "int" = none := by
  exact PySem.W.mg_none_of Kin G (by k_is)
theorem KX.v_k_TOLD_NUMBERS (w : World) (mg : Str → Option Value) (h : Heap) (Kin : (hd.heap_39 w.params).In h) (G : h.Ns mainGlobals mg) : DL.Con (hd.heap_39 w.params) mg "TOLD_NUMBERS" KX.K_TOLD_NUMBERS := by
  refine' DL.con_tupI (ns := [3, 4, 6, 0]) (PySem.W.mg_of Kin G ?aC) ?hl ?hc ?hd ?hz ?hv
  (case aC => k_is); (case hl => k_is); (case hc => rfl); (case hd => rfl); (case hz => show _ ≤ sizeLine; decide); (case hv => exact .cons ⟨_, rfl⟩ (.cons ⟨_, rfl⟩ (.cons ⟨_, rfl⟩ (.cons ⟨_, rfl⟩ (.nil)))))
theorem KX.v_n_tuple (w : World) (mg : Str → Option Value) (h : Heap) (Kin : (hd.heap_39 w.params).In h) (G : h.Ns mainGlobals mg) : mg "tuple" = none := by
  exact PySem.W.mg_none_of Kin G (by k_is)
theorem KX.v_n_enumerate (w : World) (mg : Str → Option Value) (h : Heap) (Kin : (hd.heap_39 w.params).In h) (G : h.Ns mainGlobals mg) : mg "enumerate" = none := by
  exact PySem.W.mg_none_of Kin G (by k_is)
theorem KX.v_k_ALPHABET (w : World) (mg : Str → Option Value) (h : Heap) (Kin : (hd.heap_39 w.params).In h) (G : h.Ns mainGlobals mg) : DL.Con (hd.heap_39 w.params) mg "ALPHABET" KX.K_ALPHABET := by
  refine' DL.con_str (PySem.W.mg_of Kin G ?aC)
  (case aC => k_is)
theorem KX.v_k_MOST_LETTERS (w : World) (mg : Str → Option Value) (h : Heap) (Kin : (hd.heap_39 w.params).In h) (G : h.Ns mainGlobals mg) : DL.Con (hd.heap_39 w.params) mg "MOST_LETTERS" KX.K_MOST_LETTERS := by
  refine' DL.con_int (PySem.W.mg_of Kin G ?aC)
  (case aC => k_is)
theorem KX.v_k_MOST_WORD (w : World) (mg : Str → Option Value) (h : Heap) (Kin : (hd.heap_39 w.params).In h) (G : h.Ns mainGlobals mg) : DL.Con (hd.heap_39 w.params) mg "MOST_WORD" KX.K_MOST_WORD := by
  refine' DL.con_int (PySem.W.mg_of Kin G ?aC)
  (case aC => k_is)
theorem KX.v_n_all (w : World) (mg : Str → Option Value) (h : Heap) (Kin : (hd.heap_39 w.params).In h) (G : h.Ns mainGlobals mg) : mg "all" = none := by
  exact PySem.W.mg_none_of Kin G (by k_is)
theorem KX.v_n_sum (w : World) (mg : Str → Option Value) (h : Heap) (Kin : (hd.heap_39 w.params).In h) (G : h.Ns mainGlobals mg) : mg "sum" = none := by
  exact PySem.W.mg_none_of Kin G (by k_is)
theorem KX.v_n_zip (w : World) (mg : Str → Option Value) (h : Heap) (Kin : (hd.heap_39 w.params).In h) (G : h.Ns mainGlobals mg) : mg "zip" = none := by
  exact PySem.W.mg_none_of Kin G (by k_is)
theorem KX.v_n_reversed (w : World) (mg : Str → Option Value) (h : Heap) (Kin : (hd.heap_39 w.params).In h) (G : h.Ns mainGlobals mg) : mg "reversed" = none := by
  exact PySem.W.mg_none_of Kin G (by k_is)
theorem KX.v_k_PLAIN_NUMBER (w : World) (mg : Str → Option Value) (h : Heap) (Kin : (hd.heap_39 w.params).In h) (G : h.Ns mainGlobals mg) : DL.Con (hd.heap_39 w.params) mg "PLAIN_NUMBER" KX.K_PLAIN_NUMBER := by
  refine' DL.con_int (PySem.W.mg_of Kin G ?aC)
  (case aC => k_is)
theorem KX.v_n_max (w : World) (mg : Str → Option Value) (h : Heap) (Kin : (hd.heap_39 w.params).In h) (G : h.Ns mainGlobals mg) : mg "max" = none := by
  exact PySem.W.mg_none_of Kin G (by k_is)

set_option Elab.async false
set_option linter.all false
set_option maxRecDepth 100000
set_option maxHeartbeats 0
open PySem PySem.W PyProof.Rows
theorem KX.v_n_min (w : World) (mg : Str → Option Value) (h : Heap) (Kin : (hd.heap_39 w.params).In h) (G : h.Ns mainGlobals mg) : mg "min" = none := by
  exact PySem.W.mg_none_of Kin G (by k_is)
theorem KX.v_n_range (w : World) (mg : Str → Option Value) (h : Heap) (Kin : (hd.heap_39 w.params).In h) (G : h.Ns mainGlobals mg) : mg "range" = none := by
  exact PySem.W.mg_none_of Kin G (by k_is)
theorem KX.v_n_sorted (w : World) (mg : Str → Option Value) (h : Heap) (Kin : (hd.heap_39 w.params).In h) (G : h.Ns mainGlobals mg) : mg "sorted" = none := by
  exact PySem.W.mg_none_of Kin G (by k_is)
theorem KX.v_n_list (w : World) (mg : Str → Option Value) (h : Heap) (Kin : (hd.heap_39 w.params).In h) (G : h.Ns mainGlobals mg) : mg "list" = none := by
  exact PySem.W.mg_none_of Kin G (by k_is)
theorem KX.v_n_repr (w : World) (mg : Str → Option Value) (h : Heap) (Kin : (hd.heap_39 w.params).In h) (G : h.Ns mainGlobals mg) : mg "repr" = none := by
  exact PySem.W.mg_none_of Kin G (by k_is)
theorem KX.v_n_abs (w : World) (mg : Str → Option Value) (h : Heap) (Kin : (hd.heap_39 w.params).In h) (G : h.Ns mainGlobals mg) : mg "abs" = none := by
  exact PySem.W.mg_none_of Kin G (by k_is)
theorem KX.v_cl_Mirrors (w : World) (mg : Str → Option Value) (h : Heap) (Kin : (hd.heap_39 w.params).In h) (G : h.Ns mainGlobals mg) : DL.ClF (hd.heap_39 w.params) mg "Mirrors" := by
  refine' DL.clF_of (PySem.W.mg_of Kin G ?aC) ?h1 ?h2 ?h3 ?h4
  (case aC => k_is); (case h1 => k_is); (case h2 => k_is); (case h3 => k_is); (case h4 => k_is)
theorem KX.v_f_Mirrors__angles (w : World) (mg : Str → Option Value) (h : Heap) (Kin : (hd.heap_39 w.params).In h) (G : h.Ns mainGlobals mg) : DL.FlB (hd.heap_39 w.params) mg "Mirrors" "_angles" := by
  refine' DL.flB_of (KX.v_cl_Mirrors w mg h Kin G) (PySem.W.mg_of Kin G ?aC) ?n
  (case aC => k_is); (case n => k_is)
theorem KX.v_f_Mirrors__letters (w : World) (mg : Str → Option Value) (h : Heap) (Kin : (hd.heap_39 w.params).In h) (G : h.Ns mainGlobals mg) : DL.FlB (hd.heap_39 w.params) mg "Mirrors" "_letters" := by
  refine' DL.flB_of (KX.v_cl_Mirrors w mg h Kin G) (PySem.W.mg_of Kin G ?aC) ?n
  (case aC => k_is); (case n => k_is)
theorem KX.v_f_Mirrors__text (w : World) (mg : Str → Option Value) (h : Heap) (Kin : (hd.heap_39 w.params).In h) (G : h.Ns mainGlobals mg) : DL.FlB (hd.heap_39 w.params) mg "Mirrors" "_text" := by
  refine' DL.flB_of (KX.v_cl_Mirrors w mg h Kin G) (PySem.W.mg_of Kin G ?aC) ?n
  (case aC => k_is); (case n => k_is)
theorem KX.v_kd_WRITTEN_NUMBERS (w : World) (mg : Str → Option Value) (h : Heap) (Kin : (hd.heap_39 w.params).In h) (G : h.Ns mainGlobals mg) : DL.KDB (PySem.Challenge.rw_braidwords_k05_whole_rows_sent).prog w (hd.heap_39 w.params) mg "WRITTEN_NUMBERS" KX.KD_WRITTEN_NUMBERS := by
  refine' DL.kdb_of (PySem.W.mg_of Kin G ?aC) ?hl ?hs ?he ?hn ?low
  (case aC => k_is); (case hl => k_is); (case hs => rfl)
  (case he => exact ⟨⟨by rfl, by rfl, ⟨_, rfl⟩⟩, ⟨⟨by rfl, by rfl, ⟨_, rfl⟩⟩, ⟨⟨by rfl, by rfl, ⟨_, rfl⟩⟩, ⟨⟨by rfl, by rfl, ⟨_, rfl⟩⟩, trivial⟩⟩⟩⟩)
  (case hn => decide); (case low => decide)
theorem KX.v_kd_SHARES_OF_GREATER (w : World) (mg : Str → Option Value) (h : Heap) (Kin : (hd.heap_39 w.params).In h) (G : h.Ns mainGlobals mg) : DL.KDB (PySem.Challenge.rw_braidwords_k05_whole_rows_sent).prog w (hd.heap_39 w.params) mg "SHARES_OF_GREATER" KX.KD_SHARES_OF_GREATER := by
  refine' DL.kdb_of (PySem.W.mg_of Kin G ?aC) ?hl ?hs ?he ?hn ?low
  (case aC => k_is); (case hl => k_is); (case hs => rfl)
  (case he => exact ⟨⟨by rfl, by rfl, ⟨_, rfl⟩⟩, ⟨⟨by rfl, by rfl, ⟨_, rfl⟩⟩, ⟨⟨by rfl, by rfl, ⟨_, rfl⟩⟩, ⟨⟨by rfl, by rfl, ⟨_, rfl⟩⟩, ⟨⟨by rfl, by rfl, ⟨_, rfl⟩⟩, trivial⟩⟩⟩⟩⟩)
  (case hn => decide); (case low => decide)
theorem KX.v_kd_SHARES_OF_LESSER (w : World) (mg : Str → Option Value) (h : Heap) (Kin : (hd.heap_39 w.params).In h) (G : h.Ns mainGlobals mg) : DL.KDB (PySem.Challenge.rw_braidwords_k05_whole_rows_sent).prog w (hd.heap_39 w.params) mg "SHARES_OF_LESSER" KX.KD_SHARES_OF_LESSER := by
  refine' DL.kdb_of (PySem.W.mg_of Kin G ?aC) ?hl ?hs ?he ?hn ?low
  (case aC => k_is); (case hl => k_is); (case hs => rfl)
  (case he => exact ⟨⟨by rfl, by rfl, ⟨_, rfl⟩⟩, ⟨⟨by rfl, by rfl, ⟨_, rfl⟩⟩, ⟨⟨by rfl, by rfl, ⟨_, rfl⟩⟩, ⟨⟨by rfl, by rfl, ⟨_, rfl⟩⟩, ⟨⟨by rfl, by rfl, ⟨_, rfl⟩⟩, trivial⟩⟩⟩⟩⟩)
  (case hn => decide); (case low => decide)
theorem KX.v_mk_Mirrors___init__ (w : World) (mg : Str → Option Value) (h : Heap) (Kin : (hd.heap_39 w.params).In h) (G : h.Ns mainGlobals mg) : DL.MkF (hd.heap_39 w.params) mg "Mirrors" "Mirrors.__init__" KX.s_Mirrors___init__ ["self", "size", "angles"] := by
  refine' DL.mkF_of (PySem.W.mg_of Kin G ?aC) ?h1 ?h2 ?h3 ?h4 ?l ?hc ?k ?hbd
  (case aC => k_is); (case h1 => k_is); (case h2 => k_is); (case h3 => k_is); (case h4 => k_is); (case l => k_is); (case hc => k_is); (case k => k_is)
  (case hbd => intro kV doc pm an cdv ct us hl; match us, hl with | [a, b, c], _ => rfl)
theorem KX.v_cm_Mirrors_read (w : World) (mg : Str → Option Value) (h : Heap) (Kin : (hd.heap_39 w.params).In h) (G : h.Ns mainGlobals mg) : DL.CmF (hd.heap_39 w.params) mg "Mirrors" "read" "Mirrors.read" KX.s_Mirrors_read ["cls", "text"] := by
  refine' DL.cmF_of (mc := .type "type") (PySem.W.mg_of Kin G ?aC) ?h1 ?h2 ?h3 ?h4 ?h5 ?l ?hc ?k ?hbd
  (case aC => k_is); (case h1 => k_is); (case h2 => k_is); (case h3 => k_is); (case h4 => k_is); (case h5 => k_is); (case l => k_is); (case hc => k_is); (case k => k_is)
  (case hbd => intro kV doc pm an cdv ct us hl; match us, hl with | [a, b], _ => rfl)
theorem KX.v_pr_Mirrors_letters (w : World) (mg : Str → Option Value) (h : Heap) (Kin : (hd.heap_39 w.params).In h) (G : h.Ns mainGlobals mg) : DL.PrF (hd.heap_39 w.params) mg "Mirrors" "letters" "Mirrors.letters" KX.s_Mirrors_letters := by
  refine' DL.prF_of (KX.v_cl_Mirrors w mg h Kin G) (PySem.W.mg_of Kin G ?aC) ?h1 ?h2 ?h3 ?h4 ?l ?hc ?k ?hbd
  (case aC => k_is); (case h1 => k_is); (case h2 => k_is); (case h3 => k_is); (case h4 => k_is); (case l => k_is); (case hc => k_is); (case k => k_is)
  (case hbd => intro kV doc pm an cdv ct us hl; match us, hl with | [a], _ => rfl)
theorem KX.v_pr_Mirrors_size (w : World) (mg : Str → Option Value) (h : Heap) (Kin : (hd.heap_39 w.params).In h) (G : h.Ns mainGlobals mg) : DL.PrF (hd.heap_39 w.params) mg "Mirrors" "size" "Mirrors.size" KX.s_Mirrors_size := by
  refine' DL.prF_of (KX.v_cl_Mirrors w mg h Kin G) (PySem.W.mg_of Kin G ?aC) ?h1 ?h2 ?h3 ?h4 ?l ?hc ?k ?hbd
  (case aC => k_is); (case h1 => k_is); (case h2 => k_is); (case h3 => k_is); (case h4 => k_is); (case l => k_is); (case hc => k_is); (case k => k_is)
  (case hbd => intro kV doc pm an cdv ct us hl; match us, hl with | [a], _ => rfl)
theorem KX.v_pr_Mirrors_angles (w : World) (mg : Str → Option Value) (h : Heap) (Kin : (hd.heap_39 w.params).In h) (G : h.Ns mainGlobals mg) : DL.PrF (hd.heap_39 w.params) mg "Mirrors" "angles" "Mirrors.angles" KX.s_Mirrors_angles := by
  refine' DL.prF_of (KX.v_cl_Mirrors w mg h Kin G) (PySem.W.mg_of Kin G ?aC) ?h1 ?h2 ?h3 ?h4 ?l ?hc ?k ?hbd
  (case aC => k_is); (case h1 => k_is); (case h2 => k_is); (case h3 => k_is); (case h4 => k_is); (case l => k_is); (case hc => k_is); (case k => k_is)
  (case hbd => intro kV doc pm an cdv ct us hl; match us, hl with | [a], _ => rfl)
theorem KX.v_ins (w : World) (mg : Str → Option Value) (h : Heap) (Kin : (hd.heap_39 w.params).In h) (G : h.Ns mainGlobals mg) : DL.Each mg (DL.InsT (hd.heap_39 w.params)) KX.ins := by
  refine' DL.each_cons (PySem.W.mg_of Kin G ?aC) ?i ?_
  (case aC => k_is)
  (case i => refine' DL.insT_of (KX.v_cl_Mirrors w mg h Kin G) (PySem.W.mg_of Kin G ?bC) ?h1 ?h2 ?h3 ?h4; (case bC => k_is); (case h1 => k_is); (case h2 => k_is); (case h3 => k_is); (case h4 => k_is))
  exact DL.each_nil
theorem KX.v_exc_NotRight (w : World) (mg : Str → Option Value) (h : Heap) (Kin : (hd.heap_39 w.params).In h) (G : h.Ns mainGlobals mg) : ∃ C : Addr, mg "NotRight" = some (.ref C) ∧ DL.ExcT (hd.heap_39 w.params) C := by
  refine' ⟨_, PySem.W.mg_of Kin G ?aC, ⟨?hcl, ?hga, ?hgt, ?hsub, ?hdC, ?ha, ?hn, ?htk, ?hm⟩⟩
  (case aC => k_is); (case hcl => first | k_is | kernel_rfl); (case hga => k_is); (case hgt => k_is); (case hsub => k_is); (case hdC => k_is); (case ha => k_is); (case hn => k_is); (case htk => k_is); (case hm => k_is)
theorem KX.v_exc_InvalidText (w : World) (mg : Str → Option Value) (h : Heap) (Kin : (hd.heap_39 w.params).In h) (G : h.Ns mainGlobals mg) : ∃ C : Addr, mg "InvalidText" = some (.ref C) ∧ DL.ExcT (hd.heap_39 w.params) C := by
  refine' ⟨_, PySem.W.mg_of Kin G ?aC, ⟨?hcl, ?hga, ?hgt, ?hsub, ?hdC, ?ha, ?hn, ?htk, ?hm⟩⟩
  (case aC => k_is); (case hcl => first | k_is | kernel_rfl); (case hga => k_is); (case hgt => k_is); (case hsub => k_is); (case hdC => k_is); (case ha => k_is); (case hn => k_is); (case htk => k_is); (case hm => k_is)
theorem KX.v_exc_InvalidNumber (w : World) (mg : Str → Option Value) (h : Heap) (Kin : (hd.heap_39 w.params).In h) (G : h.Ns mainGlobals mg) : ∃ C : Addr, mg "InvalidNumber" = some (.ref C) ∧ DL.ExcT (hd.heap_39 w.params) C := by
  refine' ⟨_, PySem.W.mg_of Kin G ?aC, ⟨?hcl, ?hga, ?hgt, ?hsub, ?hdC, ?ha, ?hn, ?htk, ?hm⟩⟩
  (case aC => k_is); (case hcl => first | k_is | kernel_rfl); (case hga => k_is); (case hgt => k_is); (case hsub => k_is); (case hdC => k_is); (case ha => k_is); (case hn => k_is); (case htk => k_is); (case hm => k_is)
theorem KX.v_exc_InvalidWord (w : World) (mg : Str → Option Value) (h : Heap) (Kin : (hd.heap_39 w.params).In h) (G : h.Ns mainGlobals mg) : ∃ C : Addr, mg "InvalidWord" = some (.ref C) ∧ DL.ExcT (hd.heap_39 w.params) C := by
  refine' ⟨_, PySem.W.mg_of Kin G ?aC, ⟨?hcl, ?hga, ?hgt, ?hsub, ?hdC, ?ha, ?hn, ?htk, ?hm⟩⟩
  (case aC => k_is); (case hcl => first | k_is | kernel_rfl); (case hga => k_is); (case hgt => k_is); (case hsub => k_is); (case hdC => k_is); (case ha => k_is); (case hn => k_is); (case htk => k_is); (case hm => k_is)

set_option Elab.async false
set_option linter.all false
set_option maxRecDepth 100000
set_option maxHeartbeats 0
open PySem PySem.W PyProof.Rows
theorem KX.v_exc_NotMirrors (w : World) (mg : Str → Option Value) (h : Heap) (Kin : (hd.heap_39 w.params).In h) (G : h.Ns mainGlobals mg) : ∃ C : Addr, mg "NotMirrors" = some (.ref C) ∧ DL.ExcT (hd.heap_39 w.params) C := by
  refine' ⟨_, PySem.W.mg_of Kin G ?aC, ⟨?hcl, ?hga, ?hgt, ?hsub, ?hdC, ?ha, ?hn, ?htk, ?hm⟩⟩
  (case aC => k_is); (case hcl => first | k_is | kernel_rfl); (case hga => k_is); (case hgt => k_is); (case hsub => k_is); (case hdC => k_is); (case ha => k_is); (case hn => k_is); (case htk => k_is); (case hm => k_is)
theorem KX.v_exc_InvalidAngles (w : World) (mg : Str → Option Value) (h : Heap) (Kin : (hd.heap_39 w.params).In h) (G : h.Ns mainGlobals mg) : ∃ C : Addr, mg "InvalidAngles" = some (.ref C) ∧ DL.ExcT (hd.heap_39 w.params) C := by
  refine' ⟨_, PySem.W.mg_of Kin G ?aC, ⟨?hcl, ?hga, ?hgt, ?hsub, ?hdC, ?ha, ?hn, ?htk, ?hm⟩⟩
  (case aC => k_is); (case hcl => first | k_is | kernel_rfl); (case hga => k_is); (case hgt => k_is); (case hsub => k_is); (case hdC => k_is); (case ha => k_is); (case hn => k_is); (case htk => k_is); (case hm => k_is)
theorem KX.v_exc_InvalidRow (w : World) (mg : Str → Option Value) (h : Heap) (Kin : (hd.heap_39 w.params).In h) (G : h.Ns mainGlobals mg) : ∃ C : Addr, mg "InvalidRow" = some (.ref C) ∧ DL.ExcT (hd.heap_39 w.params) C := by
  refine' ⟨_, PySem.W.mg_of Kin G ?aC, ⟨?hcl, ?hga, ?hgt, ?hsub, ?hdC, ?ha, ?hn, ?htk, ?hm⟩⟩
  (case aC => k_is); (case hcl => first | k_is | kernel_rfl); (case hga => k_is); (case hgt => k_is); (case hsub => k_is); (case hdC => k_is); (case ha => k_is); (case hn => k_is); (case htk => k_is); (case hm => k_is)
theorem KX.v_ko_Mirrors (w : World) (mg : Str → Option Value) (h : Heap) (Kin : (hd.heap_39 w.params).In h) (G : h.Ns mainGlobals mg) : DL.KtC (hd.heap_39 w.params) mg KX.ups KX.own KX.plainTys "Mirrors" := by
  refine' DL.ktC_of (PySem.W.mg_of Kin G ?aC) ?hr ?hp
  (case aC => k_is)
  case' hp => (unfold KX.plainTys; refine' DL.allm_cons ?e0 (DL.allm_cons ?e1 (DL.allm_cons ?e2 (DL.allm_cons ?e3 (DL.allm_cons ?e4 (DL.allm_cons ?e5 (DL.allm_cons ?e6 (DL.allm_nil))))))))
  (case e0 => kit_is)
  (case e1 => kit_is)
  (case e2 => kit_is)
  (case e3 => kit_is)
  (case e4 => kit_is)
  (case e5 => kit_is)
  (case e6 => kit_is)
  refine' DL.ktRow (PySem.W.mg_of Kin G ?aC) false ?e (by decide +kernel) ?_
  (case aC => k_is); (case e => kit_is)
  refine' DL.ktRow (PySem.W.mg_of Kin G ?aC) false ?e (by decide +kernel) ?_
  (case aC => k_is); (case e => kit_is)
  refine' DL.ktRow (PySem.W.mg_of Kin G ?aC) false ?e (by decide +kernel) ?_
  (case aC => k_is); (case e => kit_is)
  refine' DL.ktRow (PySem.W.mg_of Kin G ?aC) false ?e (by decide +kernel) ?_
  (case aC => k_is); (case e => kit_is)
  refine' DL.ktRow (PySem.W.mg_of Kin G ?aC) false ?e (by decide +kernel) ?_
  (case aC => k_is); (case e => kit_is)
  refine' DL.ktRow (PySem.W.mg_of Kin G ?aC) false ?e (by decide +kernel) ?_
  (case aC => k_is); (case e => kit_is)
  refine' DL.ktRow (PySem.W.mg_of Kin G ?aC) false ?e (by decide +kernel) ?_
  (case aC => k_is); (case e => kit_is)
  refine' DL.ktRow (PySem.W.mg_of Kin G ?aC) true ?e (by decide +kernel) ?_
  (case aC => k_is); (case e => kit_is)
  exact DL.eachX_nil
theorem KX.v_kb_bool (w : World) (mg : Str → Option Value) (h : Heap) (Kin : (hd.heap_39 w.params).In h) (G : h.Ns mainGlobals mg) : DL.KtT (hd.heap_39 w.params) mg KX.ups KX.own KX.plainTys "bool" := by
  refine' ⟨?hr, ?hp⟩
  case' hp => (unfold KX.plainTys; refine' DL.allm_cons ?e0 (DL.allm_cons ?e1 (DL.allm_cons ?e2 (DL.allm_cons ?e3 (DL.allm_cons ?e4 (DL.allm_cons ?e5 (DL.allm_cons ?e6 (DL.allm_nil))))))))
  (case e0 => kit_is)
  (case e1 => kit_is)
  (case e2 => kit_is)
  (case e3 => kit_is)
  (case e4 => kit_is)
  (case e5 => kit_is)
  (case e6 => kit_is)
  refine' DL.ktRow (PySem.W.mg_of Kin G ?aC) false ?e (by decide +kernel) ?_
  (case aC => k_is); (case e => kit_is)
  refine' DL.ktRow (PySem.W.mg_of Kin G ?aC) false ?e (by decide +kernel) ?_
  (case aC => k_is); (case e => kit_is)
  refine' DL.ktRow (PySem.W.mg_of Kin G ?aC) false ?e (by decide +kernel) ?_
  (case aC => k_is); (case e => kit_is)
  refine' DL.ktRow (PySem.W.mg_of Kin G ?aC) false ?e (by decide +kernel) ?_
  (case aC => k_is); (case e => kit_is)
  refine' DL.ktRow (PySem.W.mg_of Kin G ?aC) false ?e (by decide +kernel) ?_
  (case aC => k_is); (case e => kit_is)
  refine' DL.ktRow (PySem.W.mg_of Kin G ?aC) false ?e (by decide +kernel) ?_
  (case aC => k_is); (case e => kit_is)
  refine' DL.ktRow (PySem.W.mg_of Kin G ?aC) false ?e (by decide +kernel) ?_
  (case aC => k_is); (case e => kit_is)
  refine' DL.ktRow (PySem.W.mg_of Kin G ?aC) false ?e (by decide +kernel) ?_
  (case aC => k_is); (case e => kit_is)
  exact DL.eachX_nil
theorem KX.v_kb_int (w : World) (mg : Str → Option Value) (h : Heap) (Kin : (hd.heap_39 w.params).In h) (G : h.Ns mainGlobals mg) : DL.KtT (hd.heap_39 w.params) mg KX.ups KX.own KX.plainTys "int" := by
  refine' ⟨?hr, ?hp⟩
  case' hp => (unfold KX.plainTys; refine' DL.allm_cons ?e0 (DL.allm_cons ?e1 (DL.allm_cons ?e2 (DL.allm_cons ?e3 (DL.allm_cons ?e4 (DL.allm_cons ?e5 (DL.allm_cons ?e6 (DL.allm_nil))))))))
  (case e0 => kit_is)
  (case e1 => kit_is)
  (case e2 => kit_is)
  (case e3 => kit_is)
  (case e4 => kit_is)
  (case e5 => kit_is)
  (case e6 => kit_is)
  refine' DL.ktRow (PySem.W.mg_of Kin G ?aC) false ?e (by decide +kernel) ?_
  (case aC => k_is); (case e => kit_is)
  refine' DL.ktRow (PySem.W.mg_of Kin G ?aC) false ?e (by decide +kernel) ?_
  (case aC => k_is); (case e => kit_is)
  refine' DL.ktRow (PySem.W.mg_of Kin G ?aC) false ?e (by decide +kernel) ?_
  (case aC => k_is); (case e => kit_is)
  refine' DL.ktRow (PySem.W.mg_of Kin G ?aC) false ?e (by decide +kernel) ?_
  (case aC => k_is); (case e => kit_is)
  refine' DL.ktRow (PySem.W.mg_of Kin G ?aC) false ?e (by decide +kernel) ?_
  (case aC => k_is); (case e => kit_is)
  refine' DL.ktRow (PySem.W.mg_of Kin G ?aC) false ?e (by decide +kernel) ?_
  (case aC => k_is); (case e => kit_is)
  refine' DL.ktRow (PySem.W.mg_of Kin G ?aC) false ?e (by decide +kernel) ?_
  (case aC => k_is); (case e => kit_is)
  refine' DL.ktRow (PySem.W.mg_of Kin G ?aC) false ?e (by decide +kernel) ?_
  (case aC => k_is); (case e => kit_is)
  exact DL.eachX_nil
theorem KX.v_kb_str (w : World) (mg : Str → Option Value) (h : Heap) (Kin : (hd.heap_39 w.params).In h) (G : h.Ns mainGlobals mg) : DL.KtT (hd.heap_39 w.params) mg KX.ups KX.own KX.plainTys "str" := by
  refine' ⟨?hr, ?hp⟩
  case' hp => (unfold KX.plainTys; refine' DL.allm_cons ?e0 (DL.allm_cons ?e1 (DL.allm_cons ?e2 (DL.allm_cons ?e3 (DL.allm_cons ?e4 (DL.allm_cons ?e5 (DL.allm_cons ?e6 (DL.allm_nil))))))))
  (case e0 => kit_is)
  (case e1 => kit_is)
  (case e2 => kit_is)
  (case e3 => kit_is)
  (case e4 => kit_is)
  (case e5 => kit_is)
  (case e6 => kit_is)
  refine' DL.ktRow (PySem.W.mg_of Kin G ?aC) false ?e (by decide +kernel) ?_
  (case aC => k_is); (case e => kit_is)
  refine' DL.ktRow (PySem.W.mg_of Kin G ?aC) false ?e (by decide +kernel) ?_
  (case aC => k_is); (case e => kit_is)
  refine' DL.ktRow (PySem.W.mg_of Kin G ?aC) false ?e (by decide +kernel) ?_
  (case aC => k_is); (case e => kit_is)
  refine' DL.ktRow (PySem.W.mg_of Kin G ?aC) false ?e (by decide +kernel) ?_
  (case aC => k_is); (case e => kit_is)
  refine' DL.ktRow (PySem.W.mg_of Kin G ?aC) false ?e (by decide +kernel) ?_
  (case aC => k_is); (case e => kit_is)
  refine' DL.ktRow (PySem.W.mg_of Kin G ?aC) false ?e (by decide +kernel) ?_
  (case aC => k_is); (case e => kit_is)
  refine' DL.ktRow (PySem.W.mg_of Kin G ?aC) false ?e (by decide +kernel) ?_
  (case aC => k_is); (case e => kit_is)
  refine' DL.ktRow (PySem.W.mg_of Kin G ?aC) false ?e (by decide +kernel) ?_
  (case aC => k_is); (case e => kit_is)
  exact DL.eachX_nil
theorem KX.v_kb_tuple (w : World) (mg : Str → Option Value) (h : Heap) (Kin : (hd.heap_39 w.params).In h) (G : h.Ns mainGlobals mg) : DL.KtT (hd.heap_39 w.params) mg KX.ups KX.own KX.plainTys "tuple" := by
  refine' ⟨?hr, ?hp⟩
  case' hp => (unfold KX.plainTys; refine' DL.allm_cons ?e0 (DL.allm_cons ?e1 (DL.allm_cons ?e2 (DL.allm_cons ?e3 (DL.allm_cons ?e4 (DL.allm_cons ?e5 (DL.allm_cons ?e6 (DL.allm_nil))))))))
  (case e0 => kit_is)
  (case e1 => kit_is)
  (case e2 => kit_is)
  (case e3 => kit_is)
  (case e4 => kit_is)
  (case e5 => kit_is)
  (case e6 => kit_is)
  refine' DL.ktRow (PySem.W.mg_of Kin G ?aC) false ?e (by decide +kernel) ?_
  (case aC => k_is); (case e => kit_is)
  refine' DL.ktRow (PySem.W.mg_of Kin G ?aC) false ?e (by decide +kernel) ?_
  (case aC => k_is); (case e => kit_is)
  refine' DL.ktRow (PySem.W.mg_of Kin G ?aC) false ?e (by decide +kernel) ?_
  (case aC => k_is); (case e => kit_is)
  refine' DL.ktRow (PySem.W.mg_of Kin G ?aC) false ?e (by decide +kernel) ?_
  (case aC => k_is); (case e => kit_is)
  refine' DL.ktRow (PySem.W.mg_of Kin G ?aC) false ?e (by decide +kernel) ?_
  (case aC => k_is); (case e => kit_is)
  refine' DL.ktRow (PySem.W.mg_of Kin G ?aC) false ?e (by decide +kernel) ?_
  (case aC => k_is); (case e => kit_is)
  refine' DL.ktRow (PySem.W.mg_of Kin G ?aC) false ?e (by decide +kernel) ?_
  (case aC => k_is); (case e => kit_is)
  refine' DL.ktRow (PySem.W.mg_of Kin G ?aC) false ?e (by decide +kernel) ?_
  (case aC => k_is); (case e => kit_is)
  exact DL.eachX_nil
theorem KX.v_kto (w : World) (mg : Str → Option Value) (h : Heap) (Kin : (hd.heap_39 w.params).In h) (G : h.Ns mainGlobals mg) : DL.KtOk (hd.heap_39 w.params) mg KX.kt := by
  exact DL.ktok_of (usedO := KX.usedO) (usedB := KX.usedB) (DL.allm_cons (KX.v_ko_Mirrors w mg h Kin G) DL.allm_nil) (DL.allm_cons (KX.v_kb_bool w mg h Kin G) (DL.allm_cons (KX.v_kb_int w mg h Kin G) (DL.allm_cons (KX.v_kb_str w mg h Kin G) (DL.allm_cons (KX.v_kb_tuple w mg h Kin G) DL.allm_nil))))
theorem KX.v_d_is_letter (w : World) (mg : Str → Option Value) (h : Heap) (Kin : (hd.heap_39 w.params).In h) (G : h.Ns mainGlobals mg) : DL.DfB (hd.heap_39 w.params) mg "is_letter" "is_letter" KX.s_is_letter ["letters", "value"] := by
  refine' DL.df_of (PySem.W.mg_of Kin G ?aC) ?l ?c ?k ?hb
  (case aC => k_is); (case l => k_is); (case c => k_is); (case k => k_is)
  (case hb => intro kV doc pm an cdv ct us hl; match us, hl with | [a, b], _ => rfl)
theorem KX.v_d_is_integer (w : World) (mg : Str → Option Value) (h : Heap) (Kin : (hd.heap_39 w.params).In h) (G : h.Ns mainGlobals mg) : DL.DfB (hd.heap_39 w.params) mg "is_integer" "is_integer" KX.s_is_integer ["value"] := by
  refine' DL.df_of (PySem.W.mg_of Kin G ?aC) ?l ?c ?k ?hb
  (case aC => k_is); (case l => k_is); (case c => k_is); (case k => k_is)
  (case hb => intro kV doc pm an cdv ct us hl; match us, hl with | [a], _ => rfl)
theorem KX.v_d_is_triple (w : World) (mg : Str → Option Value) (h : Heap) (Kin : (hd.heap_39 w.params).In h) (G : h.Ns mainGlobals mg) : DL.DfB (hd.heap_39 w.params) mg "is_triple" "is_triple" KX.s_is_triple ["letters", "value"] := by
  refine' DL.df_of (PySem.W.mg_of Kin G ?aC) ?l ?c ?k ?hb
  (case aC => k_is); (case l => k_is); (case c => k_is); (case k => k_is)
  (case hb => intro kV doc pm an cdv ct us hl; match us, hl with | [a, b], _ => rfl)
theorem KX.v_d_first_wrong (w : World) (mg : Str → Option Value) (h : Heap) (Kin : (hd.heap_39 w.params).In h) (G : h.Ns mainGlobals mg) : DL.DfB (hd.heap_39 w.params) mg "first_wrong" "first_wrong" KX.s_first_wrong ["letters", "angles"] := by
  refine' DL.df_of (PySem.W.mg_of Kin G ?aC) ?l ?c ?k ?hb
  (case aC => k_is); (case l => k_is); (case c => k_is); (case k => k_is)
  (case hb => intro kV doc pm an cdv ct us hl; match us, hl with | [a, b], _ => rfl)
theorem KX.v_d_text_of (w : World) (mg : Str → Option Value) (h : Heap) (Kin : (hd.heap_39 w.params).In h) (G : h.Ns mainGlobals mg) : DL.DfB (hd.heap_39 w.params) mg "text_of" "text_of" KX.s_text_of ["letters", "angles"] := by
  refine' DL.df_of (PySem.W.mg_of Kin G ?aC) ?l ?c ?k ?hb
  (case aC => k_is); (case l => k_is); (case c => k_is); (case k => k_is)
  (case hb => intro kV doc pm an cdv ct us hl; match us, hl with | [a, b], _ => rfl)
theorem KX.v_d_is_integer_between (w : World) (mg : Str → Option Value) (h : Heap) (Kin : (hd.heap_39 w.params).In h) (G : h.Ns mainGlobals mg) : DL.DfB (hd.heap_39 w.params) mg "is_integer_between" "is_integer_between" KX.s_is_integer_between ["value", "low", "high"] := by
  refine' DL.df_of (PySem.W.mg_of Kin G ?aC) ?l ?c ?k ?hb
  (case aC => k_is); (case l => k_is); (case c => k_is); (case k => k_is)
  (case hb => intro kV doc pm an cdv ct us hl; match us, hl with | [a, b, c], _ => rfl)
theorem KX.v_d_triple_of (w : World) (mg : Str → Option Value) (h : Heap) (Kin : (hd.heap_39 w.params).In h) (G : h.Ns mainGlobals mg) : DL.DfB (hd.heap_39 w.params) mg "triple_of" "triple_of" KX.s_triple_of ["word"] := by
  refine' DL.df_of (PySem.W.mg_of Kin G ?aC) ?l ?c ?k ?hb
  (case aC => k_is); (case l => k_is); (case c => k_is); (case k => k_is)
  (case hb => intro kV doc pm an cdv ct us hl; match us, hl with | [a], _ => rfl)
theorem KX.v_d_check_mirrors (w : World) (mg : Str → Option Value) (h : Heap) (Kin : (hd.heap_39 w.params).In h) (G : h.Ns mainGlobals mg) : DL.DfB (hd.heap_39 w.params) mg "check_mirrors" "check_mirrors" KX.s_check_mirrors ["mirrors"] := by
  refine' DL.df_of (PySem.W.mg_of Kin G ?aC) ?l ?c ?k ?hb
  (case aC => k_is); (case l => k_is); (case c => k_is); (case k => k_is)
  (case hb => intro kV doc pm an cdv ct us hl; match us, hl with | [a], _ => rfl)
theorem KX.v_d_is_word (w : World) (mg : Str → Option Value) (h : Heap) (Kin : (hd.heap_39 w.params).In h) (G : h.Ns mainGlobals mg) : DL.DfB (hd.heap_39 w.params) mg "is_word" "is_word" KX.s_is_word ["letters", "value"] := by
  refine' DL.df_of (PySem.W.mg_of Kin G ?aC) ?l ?c ?k ?hb
  (case aC => k_is); (case l => k_is); (case c => k_is); (case k => k_is)
  (case hb => intro kV doc pm an cdv ct us hl; match us, hl with | [a, b], _ => rfl)
theorem KX.v_dr_check_words (w : World) (mg : Str → Option Value) (h : Heap) (Kin : (hd.heap_39 w.params).In h) (G : h.Ns mainGlobals mg) : DL.DfR (hd.heap_39 w.params) mg "check_words" "check_words" KX.s_check_words ["mirrors"] "words" := by
  refine' DL.dfr_of (PySem.W.mg_of Kin G ?aC) ?l ?c ?k ?hb
  (case aC => k_is); (case l => k_is); (case c => k_is); (case k => k_is)
  (case hb => intro kV doc pm an cdv ct us rest hl; match us, rest, hl with | [a], [], _ => rfl | [a], _ :: _, _ => rfl)
theorem KX.v_d_check_row (w : World) (mg : Str → Option Value) (h : Heap) (Kin : (hd.heap_39 w.params).In h) (G : h.Ns mainGlobals mg) : DL.DfB (hd.heap_39 w.params) mg "check_row" "check_row" KX.s_check_row ["mirrors", "row"] := by
  refine' DL.df_of (PySem.W.mg_of Kin G ?aC) ?l ?c ?k ?hb
  (case aC => k_is); (case l => k_is); (case c => k_is); (case k => k_is)
  (case hb => intro kV doc pm an cdv ct us hl; match us, hl with | [a, b], _ => rfl)
theorem KX.v_d_send_by_letter (w : World) (mg : Str → Option Value) (h : Heap) (Kin : (hd.heap_39 w.params).In h) (G : h.Ns mainGlobals mg) : DL.DfB (hd.heap_39 w.params) mg "send_by_letter" "send_by_letter" KX.s_send_by_letter ["shares", "letter", "row"] := by
  refine' DL.df_of (PySem.W.mg_of Kin G ?aC) ?l ?c ?k ?hb
  (case aC => k_is); (case l => k_is); (case c => k_is); (case k => k_is)
  (case hb => intro kV doc pm an cdv ct us hl; match us, hl with | [a, b, c], _ => rfl)
theorem KX.v_d_send_by_word (w : World) (mg : Str → Option Value) (h : Heap) (Kin : (hd.heap_39 w.params).In h) (G : h.Ns mainGlobals mg) : DL.DfB (hd.heap_39 w.params) mg "send_by_word" "send_by_word" KX.s_send_by_word ["shares", "word", "row"] := by
  refine' DL.df_of (PySem.W.mg_of Kin G ?aC) ?l ?c ?k ?hb
  (case aC => k_is); (case l => k_is); (case c => k_is); (case k => k_is)
  (case hb => intro kV doc pm an cdv ct us hl; match us, hl with | [a, b, c], _ => rfl)
theorem KX.v_d_number_between (w : World) (mg : Str → Option Value) (h : Heap) (Kin : (hd.heap_39 w.params).In h) (G : h.Ns mainGlobals mg) : DL.DfB (hd.heap_39 w.params) mg "number_between" "number_between" KX.s_number_between ["mirrors", "low", "high"] := by
  refine' DL.df_of (PySem.W.mg_of Kin G ?aC) ?l ?c ?k ?hb
  (case aC => k_is); (case l => k_is); (case c => k_is); (case k => k_is)
  (case hb => intro kV doc pm an cdv ct us hl; match us, hl with | [a, b, c], _ => rfl)

set_option Elab.async false
set_option linter.all false
set_option maxRecDepth 100000
set_option maxHeartbeats 0
open PySem PySem.W PyProof.Rows
theorem KX.v_d_share_between (w : World) (mg : Str → Option Value) (h : Heap) (Kin : (hd.heap_39 w.params).In h) (G : h.Ns mainGlobals mg) : DL.DfB (hd.heap_39 w.params) mg "share_between" "share_between" KX.s_share_between ["mirrors", "letter", "mate"] := by
  refine' DL.df_of (PySem.W.mg_of Kin G ?aC) ?l ?c ?k ?hb
  (case aC => k_is); (case l => k_is); (case c => k_is); (case k => k_is)
  (case hb => intro kV doc pm an cdv ct us hl; match us, hl with | [a, b, c], _ => rfl)
theorem KX.v_d_shares_of (w : World) (mg : Str → Option Value) (h : Heap) (Kin : (hd.heap_39 w.params).In h) (G : h.Ns mainGlobals mg) : DL.DfB (hd.heap_39 w.params) mg "shares_of" "shares_of" KX.s_shares_of ["mirrors"] := by
  refine' DL.df_of (PySem.W.mg_of Kin G ?aC) ?l ?c ?k ?hb
  (case aC => k_is); (case l => k_is); (case c => k_is); (case k => k_is)
  (case hb => intro kV doc pm an cdv ct us hl; match us, hl with | [a], _ => rfl)
theorem KX.v_d_send (w : World) (mg : Str → Option Value) (h : Heap) (Kin : (hd.heap_39 w.params).In h) (G : h.Ns mainGlobals mg) : DL.DfB (hd.heap_39 w.params) mg "send" "send" KX.s_send ["mirrors", "word", "row"] := by
  refine' DL.df_of (PySem.W.mg_of Kin G ?aC) ?l ?c ?k ?hb
  (case aC => k_is); (case l => k_is); (case c => k_is); (case k => k_is)
  (case hb => intro kV doc pm an cdv ct us hl; match us, hl with | [a, b, c], _ => rfl)
theorem KX.v_d_single_row (w : World) (mg : Str → Option Value) (h : Heap) (Kin : (hd.heap_39 w.params).In h) (G : h.Ns mainGlobals mg) : DL.DfB (hd.heap_39 w.params) mg "single_row" "single_row" KX.s_single_row ["shares", "letter"] := by
  refine' DL.df_of (PySem.W.mg_of Kin G ?aC) ?l ?c ?k ?hb
  (case aC => k_is); (case l => k_is); (case c => k_is); (case k => k_is)
  (case hb => intro kV doc pm an cdv ct us hl; match us, hl with | [a, b], _ => rfl)
theorem KX.v_d_rows_of (w : World) (mg : Str → Option Value) (h : Heap) (Kin : (hd.heap_39 w.params).In h) (G : h.Ns mainGlobals mg) : DL.DfB (hd.heap_39 w.params) mg "rows_of" "rows_of" KX.s_rows_of ["mirrors", "word"] := by
  refine' DL.df_of (PySem.W.mg_of Kin G ?aC) ?l ?c ?k ?hb
  (case aC => k_is); (case l => k_is); (case c => k_is); (case k => k_is)
  (case hb => intro kV doc pm an cdv ct us hl; match us, hl with | [a, b], _ => rfl)
theorem KX.v_d__law_sip (w : World) (mg : Str → Option Value) (h : Heap) (Kin : (hd.heap_39 w.params).In h) (G : h.Ns mainGlobals mg) : DL.DfB (hd.heap_39 w.params) mg "_law_sip" "_law_sip" KX.s__law_sip ["tub", "top"] := by
  refine' DL.df_of (PySem.W.mg_of Kin G ?aC) ?l ?c ?k ?hb
  (case aC => k_is); (case l => k_is); (case c => k_is); (case k => k_is)
  (case hb => intro kV doc pm an cdv ct us hl; match us, hl with | [a, b], _ => rfl)
theorem KX.v_d__law_pick (w : World) (mg : Str → Option Value) (h : Heap) (Kin : (hd.heap_39 w.params).In h) (G : h.Ns mainGlobals mg) : DL.DfB (hd.heap_39 w.params) mg "_law_pick" "_law_pick" KX.s__law_pick ["tub", "menu"] := by
  refine' DL.df_of (PySem.W.mg_of Kin G ?aC) ?l ?c ?k ?hb
  (case aC => k_is); (case l => k_is); (case c => k_is); (case k => k_is)
  (case hb => intro kV doc pm an cdv ct us hl; match us, hl with | [a, b], _ => rfl)
theorem KX.v_d__law_plan (w : World) (mg : Str → Option Value) (h : Heap) (Kin : (hd.heap_39 w.params).In h) (G : h.Ns mainGlobals mg) : DL.DfB (hd.heap_39 w.params) mg "_law_plan" "_law_plan" KX.s__law_plan ["tub", "most"] := by
  refine' DL.df_of (PySem.W.mg_of Kin G ?aC) ?l ?c ?k ?hb
  (case aC => k_is); (case l => k_is); (case c => k_is); (case k => k_is)
  (case hb => intro kV doc pm an cdv ct us hl; match us, hl with | [a, b], _ => rfl)
theorem KX.v_d__law_angles (w : World) (mg : Str → Option Value) (h : Heap) (Kin : (hd.heap_39 w.params).In h) (G : h.Ns mainGlobals mg) : DL.DfB (hd.heap_39 w.params) mg "_law_angles" "_law_angles" KX.s__law_angles ["plan"] := by
  refine' DL.df_of (PySem.W.mg_of Kin G ?aC) ?l ?c ?k ?hb
  (case aC => k_is); (case l => k_is); (case c => k_is); (case k => k_is)
  (case hb => intro kV doc pm an cdv ct us hl; match us, hl with | [a], _ => rfl)
theorem KX.v_d__law_made (w : World) (mg : Str → Option Value) (h : Heap) (Kin : (hd.heap_39 w.params).In h) (G : h.Ns mainGlobals mg) : DL.DfB (hd.heap_39 w.params) mg "_law_made" "_law_made" KX.s__law_made ["plan"] := by
  refine' DL.df_of (PySem.W.mg_of Kin G ?aC) ?l ?c ?k ?hb
  (case aC => k_is); (case l => k_is); (case c => k_is); (case k => k_is)
  (case hb => intro kV doc pm an cdv ct us hl; match us, hl with | [a], _ => rfl)
theorem KX.v_d__law_m (w : World) (mg : Str → Option Value) (h : Heap) (Kin : (hd.heap_39 w.params).In h) (G : h.Ns mainGlobals mg) : DL.DfB (hd.heap_39 w.params) mg "_law_m" "_law_m" KX.s__law_m ["plan", "x", "y"] := by
  refine' DL.df_of (PySem.W.mg_of Kin G ?aC) ?l ?c ?k ?hb
  (case aC => k_is); (case l => k_is); (case c => k_is); (case k => k_is)
  (case hb => intro kV doc pm an cdv ct us hl; match us, hl with | [a, b, c], _ => rfl)
theorem KX.v_d__law_c (w : World) (mg : Str → Option Value) (h : Heap) (Kin : (hd.heap_39 w.params).In h) (G : h.Ns mainGlobals mg) : DL.DfB (hd.heap_39 w.params) mg "_law_c" "_law_c" KX.s__law_c ["plan", "x", "y"] := by
  refine' DL.df_of (PySem.W.mg_of Kin G ?aC) ?l ?c ?k ?hb
  (case aC => k_is); (case l => k_is); (case c => k_is); (case k => k_is)
  (case hb => intro kV doc pm an cdv ct us hl; match us, hl with | [a, b, c], _ => rfl)
theorem KX.v_d__law_sent (w : World) (mg : Str → Option Value) (h : Heap) (Kin : (hd.heap_39 w.params).In h) (G : h.Ns mainGlobals mg) : DL.DfB (hd.heap_39 w.params) mg "_law_sent" "_law_sent" KX.s__law_sent ["plan", "word", "row"] := by
  refine' DL.df_of (PySem.W.mg_of Kin G ?aC) ?l ?c ?k ?hb
  (case aC => k_is); (case l => k_is); (case c => k_is); (case k => k_is)
  (case hb => intro kV doc pm an cdv ct us hl; match us, hl with | [a, b, c], _ => rfl)
theorem KX.v_d__law_word (w : World) (mg : Str → Option Value) (h : Heap) (Kin : (hd.heap_39 w.params).In h) (G : h.Ns mainGlobals mg) : DL.DfB (hd.heap_39 w.params) mg "_law_word" "_law_word" KX.s__law_word ["tub", "plan", "most"] := by
  refine' DL.df_of (PySem.W.mg_of Kin G ?aC) ?l ?c ?k ?hb
  (case aC => k_is); (case l => k_is); (case c => k_is); (case k => k_is)
  (case hb => intro kV doc pm an cdv ct us hl; match us, hl with | [a, b, c], _ => rfl)
theorem KX.v_d__law_single (w : World) (mg : Str → Option Value) (h : Heap) (Kin : (hd.heap_39 w.params).In h) (G : h.Ns mainGlobals mg) : DL.DfB (hd.heap_39 w.params) mg "_law_single" "_law_single" KX.s__law_single ["plan", "i"] := by
  refine' DL.df_of (PySem.W.mg_of Kin G ?aC) ?l ?c ?k ?hb
  (case aC => k_is); (case l => k_is); (case c => k_is); (case k => k_is)
  (case hb => intro kV doc pm an cdv ct us hl; match us, hl with | [a, b], _ => rfl)
theorem KX.v_d__law_rows (w : World) (mg : Str → Option Value) (h : Heap) (Kin : (hd.heap_39 w.params).In h) (G : h.Ns mainGlobals mg) : DL.DfB (hd.heap_39 w.params) mg "_law_rows" "_law_rows" KX.s__law_rows ["plan", "word"] := by
  refine' DL.df_of (PySem.W.mg_of Kin G ?aC) ?l ?c ?k ?hb
  (case aC => k_is); (case l => k_is); (case c => k_is); (case k => k_is)
  (case hb => intro kV doc pm an cdv ct us hl; match us, hl with | [a, b], _ => rfl)
theorem KX.v_d__law_right (w : World) (mg : Str → Option Value) (h : Heap) (Kin : (hd.heap_39 w.params).In h) (G : h.Ns mainGlobals mg) : DL.DfB (hd.heap_39 w.params) mg "_law_right" "_law_right" KX.s__law_right ["tub"] := by
  refine' DL.df_of (PySem.W.mg_of Kin G ?aC) ?l ?c ?k ?hb
  (case aC => k_is); (case l => k_is); (case c => k_is); (case k => k_is)
  (case hb => intro kV doc pm an cdv ct us hl; match us, hl with | [a], _ => rfl)
theorem KX.v_d__law_tub (w : World) (mg : Str → Option Value) (h : Heap) (Kin : (hd.heap_39 w.params).In h) (G : h.Ns mainGlobals mg) : DL.DfB (hd.heap_39 w.params) mg "_law_tub" "_law_tub" KX.s__law_tub ["script", "turn"] := by
  refine' DL.df_of (PySem.W.mg_of Kin G ?aC) ?l ?c ?k ?hb
  (case aC => k_is); (case l => k_is); (case c => k_is); (case k => k_is)
  (case hb => intro kV doc pm an cdv ct us hl; match us, hl with | [a, b], _ => rfl)
theorem KX.v_d_law (w : World) (mg : Str → Option Value) (h : Heap) (Kin : (hd.heap_39 w.params).In h) (G : h.Ns mainGlobals mg) : DL.DfB (hd.heap_39 w.params) mg "law" "law" KX.s_law ["script"] := by
  refine' DL.df_of (PySem.W.mg_of Kin G ?aC) ?l ?c ?k ?hb
  (case aC => k_is); (case l => k_is); (case c => k_is); (case k => k_is)
  (case hb => intro kV doc pm an cdv ct us hl; match us, hl with | [a], _ => rfl)
theorem KX.v_kw_rows_of_word_mirrors (w : World) (mg : Str → Option Value) (h : Heap) (Kin : (hd.heap_39 w.params).In h) (G : h.Ns mainGlobals mg) : DL.KwB (hd.heap_39 w.params) mg "rows_of" "rows_of" KX.s_rows_of ["mirrors", "word"] ["word", "mirrors"] [1, 0] := by
  refine' DL.kw_of (PySem.W.mg_of Kin G ?aC) ?l ?c ?k ?hb
  (case aC => k_is); (case l => k_is); (case c => k_is); (case k => k_is)
  (case hb => intro kV doc pm an cdv ct ws hl; match ws, hl with | [a, b], _ => rfl)
theorem KX.v_kw_send_row_word_mirrors (w : World) (mg : Str → Option Value) (h : Heap) (Kin : (hd.heap_39 w.params).In h) (G : h.Ns mainGlobals mg) : DL.KwB (hd.heap_39 w.params) mg "send" "send" KX.s_send ["mirrors", "word", "row"] ["row", "word", "mirrors"] [2, 1, 0] := by
  refine' DL.kw_of (PySem.W.mg_of Kin G ?aC) ?l ?c ?k ?hb
  (case aC => k_is); (case l => k_is); (case c => k_is); (case k => k_is)
  (case hb => intro kV doc pm an cdv ct ws hl; match ws, hl with | [a, b, c], _ => rfl)

set_option Elab.async false
set_option linter.all false
set_option maxRecDepth 100000
set_option maxHeartbeats 0
open PySem PySem.W PyProof.Rows
set_option maxRecDepth 100000 in
set_option maxHeartbeats 0 in
theorem PySem.Challenge.cw_braidwords_k05_whole_rows_sent_holds : PySem.Challenge.rw_braidwords_k05_whole_rows_sent.Holds :=
  hd (by
  k_fill
  refine DL.walkD (l := PySem.Challenge.rw_braidwords_k05_whole_rows_sent) (n := 63) (k := 7) (x := "script") (qual := "law") (st := KX.s_law) (N := ["script", "three", "two", "turn"]) (g := KX.b_law.1) rfl (by decide) rfl ⟨rfl, by decide, by decide⟩ (fun w h Y => PySem.W.kIn_of Y) KX.sc_law ?D ?B (fun ns hn => KX.law_true ns hn)
  case D => exact fun w mg h Kin G => KX.v_d_law w mg h Kin G
  case B =>
    intro w mg h Kin G
    obtain ⟨C_Mirrors, m_Mirrors, _⟩ := (KX.v_cl_Mirrors w mg h Kin G).ex
    have c_is_letter := DL.cal_of (P := (PySem.Challenge.rw_braidwords_k05_whole_rows_sent).prog) (w := w) (base := h) (T := []) (KX.v_d_is_letter w mg h Kin G) KX.sc_is_letter (fun f cdv A outer s H E c hK hM hT fx hr => KX.b_is_letter.2 _ _ _ _ _ _ f (DL.kinds_of (KX.v_ins w mg h Kin G) (DL.each_ex (KX.v_exc_NotRight w mg h Kin G) (DL.each_ex (KX.v_exc_InvalidText w mg h Kin G) (DL.each_ex (KX.v_exc_InvalidNumber w mg h Kin G) (DL.each_ex (KX.v_exc_InvalidWord w mg h Kin G) (DL.each_ex (KX.v_exc_NotMirrors w mg h Kin G) (DL.each_ex (KX.v_exc_InvalidAngles w mg h Kin G) (DL.each_ex (KX.v_exc_InvalidRow w mg h Kin G) DL.each_nil)))))))) (KX.v_kto w mg h Kin G) (KX.v_n_isinstance w mg h Kin G) (KX.v_n_len w mg h Kin G) (KX.v_n_str w mg h Kin G) cdv A outer s H E c hK hM hT fx hr)
    have c_is_integer := DL.cal_of (P := (PySem.Challenge.rw_braidwords_k05_whole_rows_sent).prog) (w := w) (base := h) (T := []) (KX.v_d_is_integer w mg h Kin G) KX.sc_is_integer (fun f cdv A outer s H E c hK hM hT fx hr => KX.b_is_integer.2 _ _ _ _ _ _ f (DL.kinds_of (KX.v_ins w mg h Kin G) (DL.each_ex (KX.v_exc_NotRight w mg h Kin G) (DL.each_ex (KX.v_exc_InvalidText w mg h Kin G) (DL.each_ex (KX.v_exc_InvalidNumber w mg h Kin G) (DL.each_ex (KX.v_exc_InvalidWord w mg h Kin G) (DL.each_ex (KX.v_exc_NotMirrors w mg h Kin G) (DL.each_ex (KX.v_exc_InvalidAngles w mg h Kin G) (DL.each_ex (KX.v_exc_InvalidRow w mg h Kin G) DL.each_nil)))))))) (KX.v_kto w mg h Kin G) (KX.v_n_bool w mg h Kin G) (KX.v_n_int w mg h Kin G) (KX.v_n_isinstance w mg h Kin G) cdv A outer s H E c hK hM hT fx hr)
    have c_is_triple := DL.cal_of (P := (PySem.Challenge.rw_braidwords_k05_whole_rows_sent).prog) (w := w) (base := h) (T := []) (KX.v_d_is_triple w mg h Kin G) KX.sc_is_triple (fun f cdv A outer s H E c hK hM hT fx hr => KX.b_is_triple.2 _ _ _ _ _ _ f c_is_integer c_is_letter (KX.v_k_TOLD_NUMBERS w mg h Kin G) (DL.kinds_of (KX.v_ins w mg h Kin G) (DL.each_ex (KX.v_exc_NotRight w mg h Kin G) (DL.each_ex (KX.v_exc_InvalidText w mg h Kin G) (DL.each_ex (KX.v_exc_InvalidNumber w mg h Kin G) (DL.each_ex (KX.v_exc_InvalidWord w mg h Kin G) (DL.each_ex (KX.v_exc_NotMirrors w mg h Kin G) (DL.each_ex (KX.v_exc_InvalidAngles w mg h Kin G) (DL.each_ex (KX.v_exc_InvalidRow w mg h Kin G) DL.each_nil)))))))) (KX.v_kto w mg h Kin G) (KX.v_n_isinstance w mg h Kin G) (KX.v_n_len w mg h Kin G) (KX.v_n_tuple w mg h Kin G) cdv A outer s H E c hK hM hT fx hr)
    have c_first_wrong := DL.cal_of (P := (PySem.Challenge.rw_braidwords_k05_whole_rows_sent).prog) (w := w) (base := h) (T := []) (KX.v_d_first_wrong w mg h Kin G) KX.sc_first_wrong (fun f cdv A outer s H E c hK hM hT fx hr => KX.b_first_wrong.2 _ _ _ _ _ _ f c_is_triple (KX.v_n_enumerate w mg h Kin G) cdv A outer s H E c hK hM hT fx hr)
    have c_text_of := DL.cal_of (P := (PySem.Challenge.rw_braidwords_k05_whole_rows_sent).prog) (w := w) (base := h) (T := []) (KX.v_d_text_of w mg h Kin G) KX.sc_text_of (fun f cdv A outer s H E c hK hM hT fx hr => KX.b_text_of.2 _ _ _ _ _ _ f  cdv A outer s H E c hK hM hT fx hr)
    have c_is_integer_between := DL.cal_of (P := (PySem.Challenge.rw_braidwords_k05_whole_rows_sent).prog) (w := w) (base := h) (T := []) (KX.v_d_is_integer_between w mg h Kin G) KX.sc_is_integer_between (fun f cdv A outer s H E c hK hM hT fx hr => KX.b_is_integer_between.2 _ _ _ _ _ _ f c_is_integer cdv A outer s H E c hK hM hT fx hr)
    have y_Mirrors := DL.mkB_of (P := (PySem.Challenge.rw_braidwords_k05_whole_rows_sent).prog) (w := w) (base := h) (T := []) (KX.v_mk_Mirrors___init__ w mg h Kin G) KX.sc_Mirrors___init__ (fun f cdv A outer s H E c hK hM hT fx hr => KX.b_Mirrors___init__.2 _ _ _ _ _ _ f c_first_wrong c_is_integer_between c_text_of (KX.v_f_Mirrors__angles w mg h Kin G) (KX.v_f_Mirrors__letters w mg h Kin G) (KX.v_f_Mirrors__text w mg h Kin G) (KX.v_k_ALPHABET w mg h Kin G) (KX.v_k_MOST_LETTERS w mg h Kin G) (DL.kinds_of (KX.v_ins w mg h Kin G) (DL.each_ex (KX.v_exc_NotRight w mg h Kin G) (DL.each_ex (KX.v_exc_InvalidText w mg h Kin G) (DL.each_ex (KX.v_exc_InvalidNumber w mg h Kin G) (DL.each_ex (KX.v_exc_InvalidWord w mg h Kin G) (DL.each_ex (KX.v_exc_NotMirrors w mg h Kin G) (DL.each_ex (KX.v_exc_InvalidAngles w mg h Kin G) (DL.each_ex (KX.v_exc_InvalidRow w mg h Kin G) DL.each_nil)))))))) (KX.v_kto w mg h Kin G) (KX.v_n_isinstance w mg h Kin G) (KX.v_n_tuple w mg h Kin G) (KX.v_x_InvalidAngles w mg h Kin G).1 (KX.v_x_InvalidNumber w mg h Kin G).1 cdv A outer s H E c hK hM hT fx hr)
    have c_triple_of := DL.cal_of (P := (PySem.Challenge.rw_braidwords_k05_whole_rows_sent).prog) (w := w) (base := h) (T := []) (KX.v_d_triple_of w mg h Kin G) KX.sc_triple_of (fun f cdv A outer s H E c hK hM hT fx hr => KX.b_triple_of.2 _ _ _ _ _ _ f (KX.v_kd_WRITTEN_NUMBERS w mg h Kin G) cdv A outer s H E c hK hM hT fx hr)
    have a_Mirrors_read := DL.cmB_of (P := (PySem.Challenge.rw_braidwords_k05_whole_rows_sent).prog) (w := w) (base := h) (T := []) (KX.v_cm_Mirrors_read w mg h Kin G) KX.sc_Mirrors_read (fun f cdv A outer s H E c hK hM hT fx hr => KX.b_Mirrors_read.2 _ _ _ _ _ _ f c_first_wrong c_triple_of (KX.v_k_ALPHABET w mg h Kin G) (DL.kinds_of (KX.v_ins w mg h Kin G) (DL.each_ex (KX.v_exc_NotRight w mg h Kin G) (DL.each_ex (KX.v_exc_InvalidText w mg h Kin G) (DL.each_ex (KX.v_exc_InvalidNumber w mg h Kin G) (DL.each_ex (KX.v_exc_InvalidWord w mg h Kin G) (DL.each_ex (KX.v_exc_NotMirrors w mg h Kin G) (DL.each_ex (KX.v_exc_InvalidAngles w mg h Kin G) (DL.each_ex (KX.v_exc_InvalidRow w mg h Kin G) DL.each_nil)))))))) (KX.v_kto w mg h Kin G) (KX.v_n_isinstance w mg h Kin G) (KX.v_n_len w mg h Kin G) (KX.v_n_str w mg h Kin G) (KX.v_n_tuple w mg h Kin G) (KX.v_x_InvalidText w mg h Kin G).1 y_Mirrors cdv A outer s H E c hK hM hT fx hr)
    have c_check_mirrors := DL.cal_of (P := (PySem.Challenge.rw_braidwords_k05_whole_rows_sent).prog) (w := w) (base := h) (T := []) (KX.v_d_check_mirrors w mg h Kin G) KX.sc_check_mirrors (fun f cdv A outer s H E c hK hM hT fx hr => KX.b_check_mirrors.2 _ _ _ _ _ _ f (DL.kinds_of (KX.v_ins w mg h Kin G) (DL.each_ex (KX.v_exc_NotRight w mg h Kin G) (DL.each_ex (KX.v_exc_InvalidText w mg h Kin G) (DL.each_ex (KX.v_exc_InvalidNumber w mg h Kin G) (DL.each_ex (KX.v_exc_InvalidWord w mg h Kin G) (DL.each_ex (KX.v_exc_NotMirrors w mg h Kin G) (DL.each_ex (KX.v_exc_InvalidAngles w mg h Kin G) (DL.each_ex (KX.v_exc_InvalidRow w mg h Kin G) DL.each_nil)))))))) (KX.v_kto w mg h Kin G) C_Mirrors m_Mirrors (KX.v_n_isinstance w mg h Kin G) (KX.v_x_NotMirrors w mg h Kin G).1 cdv A outer s H E c hK hM hT fx hr)
    have c_is_word := DL.cal_of (P := (PySem.Challenge.rw_braidwords_k05_whole_rows_sent).prog) (w := w) (base := h) (T := []) (KX.v_d_is_word w mg h Kin G) KX.sc_is_word (fun f cdv A outer s H E c hK hM hT fx hr => KX.b_is_word.2 _ _ _ _ _ _ f (KX.v_k_MOST_WORD w mg h Kin G) (DL.kinds_of (KX.v_ins w mg h Kin G) (DL.each_ex (KX.v_exc_NotRight w mg h Kin G) (DL.each_ex (KX.v_exc_InvalidText w mg h Kin G) (DL.each_ex (KX.v_exc_InvalidNumber w mg h Kin G) (DL.each_ex (KX.v_exc_InvalidWord w mg h Kin G) (DL.each_ex (KX.v_exc_NotMirrors w mg h Kin G) (DL.each_ex (KX.v_exc_InvalidAngles w mg h Kin G) (DL.each_ex (KX.v_exc_InvalidRow w mg h Kin G) DL.each_nil)))))))) (KX.v_kto w mg h Kin G) (KX.v_n_all w mg h Kin G) (KX.v_n_isinstance w mg h Kin G) (KX.v_n_len w mg h Kin G) (KX.v_n_str w mg h Kin G) cdv A outer s H E c hK hM hT fx hr)
    have p_Mirrors_letters := DL.prB_of (P := (PySem.Challenge.rw_braidwords_k05_whole_rows_sent).prog) (w := w) (base := h) (T := []) (KX.v_pr_Mirrors_letters w mg h Kin G) KX.sc_Mirrors_letters (fun f cdv A outer s H E c hK hM hT fx hr => KX.b_Mirrors_letters.2 _ _ _ _ _ _ f (KX.v_f_Mirrors__letters w mg h Kin G) cdv A outer s H E c hK hM hT fx hr)
    have r_check_words := DL.calR_of (P := (PySem.Challenge.rw_braidwords_k05_whole_rows_sent).prog) (w := w) (base := h) (T := []) (KX.v_dr_check_words w mg h Kin G) KX.sc_check_words (fun f cdv A outer s H E c hK hM hT fx hr => KX.b_check_words.2 _ _ _ _ _ _ f c_check_mirrors c_is_word p_Mirrors_letters (KX.v_x_InvalidWord w mg h Kin G).1 cdv A outer s H E c hK hM hT fx hr)
    have p_Mirrors_size := DL.prB_of (P := (PySem.Challenge.rw_braidwords_k05_whole_rows_sent).prog) (w := w) (base := h) (T := []) (KX.v_pr_Mirrors_size w mg h Kin G) KX.sc_Mirrors_size (fun f cdv A outer s H E c hK hM hT fx hr => KX.b_Mirrors_size.2 _ _ _ _ _ _ f (KX.v_f_Mirrors__letters w mg h Kin G) (KX.v_n_len w mg h Kin G) cdv A outer s H E c hK hM hT fx hr)
    have c_check_row := DL.cal_of (P := (PySem.Challenge.rw_braidwords_k05_whole_rows_sent).prog) (w := w) (base := h) (T := []) (KX.v_d_check_row w mg h Kin G) KX.sc_check_row (fun f cdv A outer s H E c hK hM hT fx hr => KX.b_check_row.2 _ _ _ _ _ _ f c_is_integer (DL.kinds_of (KX.v_ins w mg h Kin G) (DL.each_ex (KX.v_exc_NotRight w mg h Kin G) (DL.each_ex (KX.v_exc_InvalidText w mg h Kin G) (DL.each_ex (KX.v_exc_InvalidNumber w mg h Kin G) (DL.each_ex (KX.v_exc_InvalidWord w mg h Kin G) (DL.each_ex (KX.v_exc_NotMirrors w mg h Kin G) (DL.each_ex (KX.v_exc_InvalidAngles w mg h Kin G) (DL.each_ex (KX.v_exc_InvalidRow w mg h Kin G) DL.each_nil)))))))) (KX.v_kto w mg h Kin G) (KX.v_n_enumerate w mg h Kin G) (KX.v_n_isinstance w mg h Kin G) (KX.v_n_len w mg h Kin G) (KX.v_n_tuple w mg h Kin G) p_Mirrors_size (KX.v_x_InvalidRow w mg h Kin G).1 cdv A outer s H E c hK hM hT fx hr)
    have c_send_by_letter := DL.cal_of (P := (PySem.Challenge.rw_braidwords_k05_whole_rows_sent).prog) (w := w) (base := h) (T := []) (KX.v_d_send_by_letter w mg h Kin G) KX.sc_send_by_letter (fun f cdv A outer s H E c hK hM hT fx hr => KX.b_send_by_letter.2 _ _ _ _ _ _ f (KX.v_k_ALPHABET w mg h Kin G) (KX.v_n_sum w mg h Kin G) (KX.v_n_zip w mg h Kin G) cdv A outer s H E c hK hM hT fx hr)
    have c_send_by_word := DL.cal_of (P := (PySem.Challenge.rw_braidwords_k05_whole_rows_sent).prog) (w := w) (base := h) (T := []) (KX.v_d_send_by_word w mg h Kin G) KX.sc_send_by_word (fun f cdv A outer s H E c hK hM hT fx hr => KX.b_send_by_word.2 _ _ _ _ _ _ f c_send_by_letter (KX.v_n_reversed w mg h Kin G) cdv A outer s H E c hK hM hT fx hr)
    have p_Mirrors_angles := DL.prB_of (P := (PySem.Challenge.rw_braidwords_k05_whole_rows_sent).prog) (w := w) (base := h) (T := []) (KX.v_pr_Mirrors_angles w mg h Kin G) KX.sc_Mirrors_angles (fun f cdv A outer s H E c hK hM hT fx hr => KX.b_Mirrors_angles.2 _ _ _ _ _ _ f (KX.v_f_Mirrors__angles w mg h Kin G) cdv A outer s H E c hK hM hT fx hr)
    have c_number_between := DL.cal_of (P := (PySem.Challenge.rw_braidwords_k05_whole_rows_sent).prog) (w := w) (base := h) (T := []) (KX.v_d_number_between w mg h Kin G) KX.sc_number_between (fun f cdv A outer s H E c hK hM hT fx hr => KX.b_number_between.2 _ _ _ _ _ _ f (KX.v_k_PLAIN_NUMBER w mg h Kin G) p_Mirrors_angles cdv A outer s H E c hK hM hT fx hr)
    have c_share_between := DL.cal_of (P := (PySem.Challenge.rw_braidwords_k05_whole_rows_sent).prog) (w := w) (base := h) (T := []) (KX.v_d_share_between w mg h Kin G) KX.sc_share_between (fun f cdv A outer s H E c hK hM hT fx hr => KX.b_share_between.2 _ _ _ _ _ _ f c_number_between (KX.v_kd_SHARES_OF_GREATER w mg h Kin G) (KX.v_kd_SHARES_OF_LESSER w mg h Kin G) (KX.v_n_max w mg h Kin G) (KX.v_n_min w mg h Kin G) cdv A outer s H E c hK hM hT fx hr)
    have c_shares_of := DL.cal_of (P := (PySem.Challenge.rw_braidwords_k05_whole_rows_sent).prog) (w := w) (base := h) (T := []) (KX.v_d_shares_of w mg h Kin G) KX.sc_shares_of (fun f cdv A outer s H E c hK hM hT fx hr => KX.b_shares_of.2 _ _ _ _ _ _ f c_share_between (KX.v_n_tuple w mg h Kin G) p_Mirrors_letters cdv A outer s H E c hK hM hT fx hr)
    have c_send := DL.cal_of (P := (PySem.Challenge.rw_braidwords_k05_whole_rows_sent).prog) (w := w) (base := h) (T := []) (KX.v_d_send w mg h Kin G) KX.sc_send (fun f cdv A outer s H E c hK hM hT fx hr => KX.b_send.2 _ _ _ _ _ _ f c_check_row c_send_by_word c_shares_of r_check_words cdv A outer s H E c hK hM hT fx hr)
    have u_send_row_word_mirrors := DL.calK_of (P := (PySem.Challenge.rw_braidwords_k05_whole_rows_sent).prog) (w := w) (base := h) (T := []) (KX.v_kw_send_row_word_mirrors w mg h Kin G) KX.sc_send (fun f cdv A outer s H E c hK hM hT fx hr => KX.b_send.2 _ _ _ _ _ _ f c_check_row c_send_by_word c_shares_of r_check_words cdv A outer s H E c hK hM hT fx hr)
    have c_single_row := DL.cal_of (P := (PySem.Challenge.rw_braidwords_k05_whole_rows_sent).prog) (w := w) (base := h) (T := []) (KX.v_d_single_row w mg h Kin G) KX.sc_single_row (fun f cdv A outer s H E c hK hM hT fx hr => KX.b_single_row.2 _ _ _ _ _ _ f (KX.v_n_tuple w mg h Kin G) cdv A outer s H E c hK hM hT fx hr)
    have c_rows_of := DL.cal_of (P := (PySem.Challenge.rw_braidwords_k05_whole_rows_sent).prog) (w := w) (base := h) (T := []) (KX.v_d_rows_of w mg h Kin G) KX.sc_rows_of (fun f cdv A outer s H E c hK hM hT fx hr => KX.b_rows_of.2 _ _ _ _ _ _ f c_send_by_word c_shares_of c_single_row (KX.v_n_tuple w mg h Kin G) p_Mirrors_letters r_check_words cdv A outer s H E c hK hM hT fx hr)
    have u_rows_of_word_mirrors := DL.calK_of (P := (PySem.Challenge.rw_braidwords_k05_whole_rows_sent).prog) (w := w) (base := h) (T := []) (KX.v_kw_rows_of_word_mirrors w mg h Kin G) KX.sc_rows_of (fun f cdv A outer s H E c hK hM hT fx hr => KX.b_rows_of.2 _ _ _ _ _ _ f c_send_by_word c_shares_of c_single_row (KX.v_n_tuple w mg h Kin G) p_Mirrors_letters r_check_words cdv A outer s H E c hK hM hT fx hr)
    have o__law_sip := DL.calO_of (P := (PySem.Challenge.rw_braidwords_k05_whole_rows_sent).prog) (w := w) (base := h) (T := []) (KX.v_d__law_sip w mg h Kin G) KX.sc__law_sip (fun f cdv A outer s H E c hK hM hT fx hr => KX.b__law_sip.2 _ _ _ _ _ _ f (KX.v_n_int w mg h Kin G) cdv A outer s H E c hK hM hT fx hr)
    have o__law_pick := DL.calO_of (P := (PySem.Challenge.rw_braidwords_k05_whole_rows_sent).prog) (w := w) (base := h) (T := []) (KX.v_d__law_pick w mg h Kin G) KX.sc__law_pick (fun f cdv A outer s H E c hK hM hT fx hr => KX.b__law_pick.2 _ _ _ _ _ _ f (KX.v_n_len w mg h Kin G) o__law_sip cdv A outer s H E c hK hM hT fx hr)
    have o__law_plan := DL.calO_of (P := (PySem.Challenge.rw_braidwords_k05_whole_rows_sent).prog) (w := w) (base := h) (T := []) (KX.v_d__law_plan w mg h Kin G) KX.sc__law_plan (fun f cdv A outer s H E c hK hM hT fx hr => KX.b__law_plan.2 _ _ _ _ _ _ f (KX.v_n_range w mg h Kin G) o__law_pick o__law_sip cdv A outer s H E c hK hM hT fx hr)
    have c__law_angles := DL.cal_of (P := (PySem.Challenge.rw_braidwords_k05_whole_rows_sent).prog) (w := w) (base := h) (T := []) (KX.v_d__law_angles w mg h Kin G) KX.sc__law_angles (fun f cdv A outer s H E c hK hM hT fx hr => KX.b__law_angles.2 _ _ _ _ _ _ f (KX.v_n_sorted w mg h Kin G) (KX.v_n_tuple w mg h Kin G) cdv A outer s H E c hK hM hT fx hr)
    have c__law_made := DL.cal_of (P := (PySem.Challenge.rw_braidwords_k05_whole_rows_sent).prog) (w := w) (base := h) (T := []) (KX.v_d__law_made w mg h Kin G) KX.sc__law_made (fun f cdv A outer s H E c hK hM hT fx hr => KX.b__law_made.2 _ _ _ _ _ _ f c__law_angles y_Mirrors cdv A outer s H E c hK hM hT fx hr)
    have c__law_m := DL.cal_of (P := (PySem.Challenge.rw_braidwords_k05_whole_rows_sent).prog) (w := w) (base := h) (T := []) (KX.v_d__law_m w mg h Kin G) KX.sc__law_m (fun f cdv A outer s H E c hK hM hT fx hr => KX.b__law_m.2 _ _ _ _ _ _ f (KX.v_n_max w mg h Kin G) (KX.v_n_min w mg h Kin G) cdv A outer s H E c hK hM hT fx hr)
    have c__law_c := DL.cal_of (P := (PySem.Challenge.rw_braidwords_k05_whole_rows_sent).prog) (w := w) (base := h) (T := []) (KX.v_d__law_c w mg h Kin G) KX.sc__law_c (fun f cdv A outer s H E c hK hM hT fx hr => KX.b__law_c.2 _ _ _ _ _ _ f c__law_m cdv A outer s H E c hK hM hT fx hr)
    have c__law_sent := DL.cal_of (P := (PySem.Challenge.rw_braidwords_k05_whole_rows_sent).prog) (w := w) (base := h) (T := []) (KX.v_d__law_sent w mg h Kin G) KX.sc__law_sent (fun f cdv A outer s H E c hK hM hT fx hr => KX.b__law_sent.2 _ _ _ _ _ _ f c__law_c (KX.v_n_list w mg h Kin G) (KX.v_n_range w mg h Kin G) (KX.v_n_tuple w mg h Kin G) cdv A outer s H E c hK hM hT fx hr)
    have o__law_word := DL.calO_of (P := (PySem.Challenge.rw_braidwords_k05_whole_rows_sent).prog) (w := w) (base := h) (T := []) (KX.v_d__law_word w mg h Kin G) KX.sc__law_word (fun f cdv A outer s H E c hK hM hT fx hr => KX.b__law_word.2 _ _ _ _ _ _ f (KX.v_n_range w mg h Kin G) o__law_sip cdv A outer s H E c hK hM hT fx hr)
    have c__law_single := DL.cal_of (P := (PySem.Challenge.rw_braidwords_k05_whole_rows_sent).prog) (w := w) (base := h) (T := []) (KX.v_d__law_single w mg h Kin G) KX.sc__law_single (fun f cdv A outer s H E c hK hM hT fx hr => KX.b__law_single.2 _ _ _ _ _ _ f (KX.v_n_range w mg h Kin G) (KX.v_n_tuple w mg h Kin G) cdv A outer s H E c hK hM hT fx hr)
    have c__law_rows := DL.cal_of (P := (PySem.Challenge.rw_braidwords_k05_whole_rows_sent).prog) (w := w) (base := h) (T := []) (KX.v_d__law_rows w mg h Kin G) KX.sc__law_rows (fun f cdv A outer s H E c hK hM hT fx hr => KX.b__law_rows.2 _ _ _ _ _ _ f c__law_sent c__law_single (KX.v_n_range w mg h Kin G) (KX.v_n_tuple w mg h Kin G) cdv A outer s H E c hK hM hT fx hr)
    have P__law_right := DL.calOG_of (P := (PySem.Challenge.rw_braidwords_k05_whole_rows_sent).prog) (w := w) (base := h) (T := []) (KX.v_d__law_right w mg h Kin G) KX.sc__law_right (fun f cdv A outer s H E c hK hM hT fx hgd hr => KX.b__law_right.2 _ _ _ _ _ _ f c__law_made c__law_rows c__law_sent c_rows_of c_send (KX.v_n_max w mg h Kin G) (KX.v_n_min w mg h Kin G) (KX.v_n_range w mg h Kin G) (KX.v_n_repr w mg h Kin G) (KX.v_n_tuple w mg h Kin G) o__law_pick o__law_plan o__law_sip o__law_word u_rows_of_word_mirrors u_send_row_word_mirrors cdv A outer s H E c hK hM hT fx hgd hr)
    have N__law_tub := DL.calN_of (P := (PySem.Challenge.rw_braidwords_k05_whole_rows_sent).prog) (w := w) (base := h) (T := []) (KX.v_d__law_tub w mg h Kin G) KX.sc__law_tub (fun f cdv A outer s H E c hK hM hT fx hr => KX.b__law_tub.2 _ _ _ _ _ _ f (KX.v_n_abs w mg h Kin G) (KX.v_n_int w mg h Kin G) (KX.v_n_len w mg h Kin G) cdv A outer s H E c hK hM hT fx hr)
    exact fun f cdv A outer s H E c hK hM hT fx hgd hr => KX.b_law.2 _ _ _ _ _ _ f N__law_tub P__law_right a_Mirrors_read c_rows_of c_send (KX.v_n_all w mg h Kin G) (KX.v_n_len w mg h Kin G) (KX.v_n_max w mg h Kin G) (KX.v_n_min w mg h Kin G) (KX.v_n_range w mg h Kin G) cdv A outer s H E c hK hM hT fx hgd hr)
