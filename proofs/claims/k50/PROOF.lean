import PyProof.Rows.All
import Wide.All
import OpenK.AllK
import Wide.FinOn
import Lean
import PyProof.EqAt
import PyProof.EqKinds
import PyProof.TupleCall
import PyProof.FactsAll.list_3
import PyProof.EnumMake
import PyProof.Draws
import PyProof.Rows.CallKwBuiltin
import PyProof.ListRange
import PyProof.TupleIter
import PyProof.Rows.Range3
import PyProof.ZipIter
import PyProof.FactsAll.int_0
import PyProof.FactsAll.int_6
import PyProof.Rows.RuleM_int
import Lean
import PyProof.ReprNest
import PyProof.ReprLen
import PyProof.StrOps
import KE.KDictOf
import PyProof.AttrMissHeap
import PyProof.MeetsDictList
import PyProof.DictRoadsH
import KE.KSortTup
import KE.KDictList
import PyProof.Rows.SortShell
import PyProof.MeetsSeq3
import PyProof.FactsAll.list_2
import KE.KSortAsk
import PySem.Challenge.RW_telltight_k50_heaps_beside
set_option bootstrap.genMatcherCode false
set_option compiler.extract_closed false
open Option (bind_some map_some)
set_option Elab.async false
set_option linter.all false
set_option maxRecDepth 100000
theorem Ax0 (_ : True := by first | exact .inl rfl | exact .inr rfl | assumption) : True := trivial
theorem Ax1 (_ : True := by decide) : True := trivial
theorem Ax2 (_ : True := by first | exact nobehind _ (by decide) (by decide) | rfl) : True := trivial
theorem Ax3 (_ : True := by intro _; rfl) : True := trivial
theorem Ax4 (_ : True := by rfl) : True := trivial
theorem Ax5 (_ : True := by exact trivial) : True := trivial
theorem Ax6 (_ : True := by first | exact Or.inl rfl | exact Or.inr (Or.inl rfl) | exact Or.inr (Or.inr rfl)) : True := trivial
theorem Ax7 (_ : True := by intro _ _; rfl) : True := trivial
theorem Ax8 (_ : True := by first | exact Or.inl rfl | exact Or.inr rfl) : True := trivial
theorem Ax9 (_ : True := by intro _; repeat (first | exact Fr.nil | refine Fr.som (fun _ _ h => h) ?_ | refine Fr.non ?_)) : True := trivial
theorem Ax10 (_ : True := by (first | exact Le.refl | (repeat (first | exact Le.nil | refine Le.som inferInstance ?_ | refine Le.non ?_)))) : True := trivial
theorem Ax11 (_ : True := by infer_instance) : True := trivial
theorem Ax12 (_ : True := by intro _; repeat (first | exact Le.nil | refine Le.som inferInstance ?_ | refine Le.non ?_)) : True := trivial
theorem Ax13 (_ : True := by intro _; (first | exact Le.refl | (repeat (first | exact Le.nil | refine Le.som inferInstance ?_ | refine Le.non ?_)))) : True := trivial
namespace L2
open PySem PySem.Spec PyProof.Rows
noncomputable abbrev Key := Sum Int Str
noncomputable def keyIs : Key → Value → Bool
 | .inl k, v => Value.isInt k v
 | .inr x, v => Value.isStrOf x v
noncomputable def keyH (w : World) : Key → Int
 | .inl k => hashInt k
 | .inr x => hashStr w x
theorem keyIs_shape : ∀ {k : Key} {v : Value}, keyIs k v = true → (∃ i t, k = Sum.inl i ∧ v = Value.int i t) ∨ (∃ x t, k = Sum.inr x ∧ v = Value.str x t)
 | .inl i, v, h => by
  obtain ⟨t, e⟩ := Value.isInt_shape (k := i) (v := v) h
  exact .inl ⟨i, t, rfl, e⟩
 | .inr x, v, h => by
  obtain ⟨t, e⟩ := Value.isStrOf_shape (x := x) (v := v) h
  exact .inr ⟨x, t, rfl, e⟩
theorem key_ll (a b : Int) : decide ((Sum.inl a : Key) = Sum.inl b) = (a == b) := by
 by_cases e : a = b
 ·subst e; simp
 ·have h : ¬ (Sum.inl a : Key) = Sum.inl b := fun q => e (Sum.inl.inj q)
  rw [decide_eq_false h]
  exact (beq_eq_false_iff_ne.mpr e).symm
theorem key_rr (a b : Str) : decide ((Sum.inr a : Key) = Sum.inr b) = decide (a = b) := by
 by_cases e : a = b
 ·subst e; simp
 ·have h : ¬ (Sum.inr a : Key) = Sum.inr b := fun q => e (Sum.inr.inj q)
  rw [decide_eq_false h, decide_eq_false e]
theorem key_lr (a : Int) (b : Str) : decide ((Sum.inl a : Key) = Sum.inr b) = false := decide_eq_false (fun q => nomatch q)
theorem key_rl (a : Str) (b : Int) : decide ((Sum.inr a : Key) = Sum.inl b) = false := decide_eq_false (fun q => nomatch q)
noncomputable def mixKind (prog : Program) (w : World) : PySem.KeyKind prog w Key where
 is := keyIs
 hash := keyH w
 inj := fun v a b ha hb => by
  rcases keyIs_shape ha with ⟨i, t, rfl, rfl⟩ | ⟨x, t, rfl, rfl⟩
  ·rcases keyIs_shape hb with ⟨j, u, rfl, e⟩ | ⟨y, u, rfl, e⟩
   ·injection e with e1 _; rw [e1]
   ·exact nomatch e
  ·rcases keyIs_shape hb with ⟨j, u, rfl, e⟩ | ⟨y, u, rfl, e⟩
   ·exact nomatch e
   ·injection e with e1 _; rw [e1]
 byValue := fun k v h => by
  rcases keyIs_shape h with ⟨i, t, rfl, rfl⟩ | ⟨x, t, rfl, rfl⟩ <;> rfl
 pyHash := fun hv h => by
  rcases keyIs_shape hv with ⟨i, t, rfl, rfl⟩ | ⟨x, t, rfl, rfl⟩
  ·exact wpAny_pyHash_int h
  ·exact wpAny_pyHash_str h
 eqBool := fun hu hv h => by
  rcases keyIs_shape hu with ⟨i, t, rfl, rfl⟩ | ⟨x, t, rfl, rfl⟩
  ·rcases keyIs_shape hv with ⟨j, u, rfl, rfl⟩ | ⟨y, u, rfl, rfl⟩
   ·rw [key_ll] at h; exact wpAny_eqBool_int h
   ·rw [key_lr] at h; exact SeqAt.EqAt.int_str i t y u _ _ _ _ h
  ·rcases keyIs_shape hv with ⟨j, u, rfl, rfl⟩ | ⟨y, u, rfl, rfl⟩
   ·rw [key_rl] at h; exact SeqAt.EqAt.str_int x t j u _ _ _ _ h
   ·rw [key_rr] at h; exact wpAny_eqBool_str h
 «strs» := fun k x t v h => by
  rcases keyIs_shape h with ⟨i, u, rfl, e⟩ | ⟨y, u, rfl, e⟩
  ·exact nomatch e
  ·injection e with e1 _
   subst e1
   cases v <;> rfl
end L2
namespace L2
open PySem PySem.Spec PyProof.Rows
inductive V where
 | non | bl (b : Bool) | int (i : Int) | str (x : Str) | byt (b : Array UInt8) | flt (b : UInt64) | ref (a : Addr) | ty (n : String)
 deriving DecidableEq
noncomputable def RelV : V → Value → Prop
 | .non, u => u = Value.none
 | .bl b, u => u = Value.bool b
 | .int i, u => ∃ t, u = Value.int i t
 | .str x, u => ∃ t, u = Value.str x t
 | .byt b, u => ∃ t, u = Value.bytes b t
 | .flt b, u => ∃ t, u = Value.float b t
 | .ref a, u => u = Value.ref a
 | .ty n, u => u = Value.type n
noncomputable abbrev Vals : List V → List Value → Prop := Paired RelV
theorem Vals.length {xs : List V} {us : List Value} (r : Vals xs us) : xs.length = us.length := Paired.length r
theorem Vals.get : ∀ {xs : List V} {us : List Value} {i : Nat} {x : V}, Vals xs us → xs[i]? = some x → ∃ u, us[i]? = some u ∧ RelV x u
 | _, _, _, _, .nil, e => by simp at e
 | _, _, 0, _, .cons r _, e => by simp at e; subst e; exact ⟨_, rfl, r⟩
 | _, _, i + 1, x, .cons _ t, e => by
  obtain ⟨u, h1, h2⟩ := Vals.get (i := i) (x := x) t (by simpa using e)
  exact ⟨u, by simpa using h1, h2⟩
theorem Vals.append : ∀ {xs ys : List V} {us ws : List Value}, Vals xs us → Vals ys ws → Vals (xs ++ ys) (us ++ ws) := by
 intro xs ys us ws h s
 induction h with
 | nil => exact s
 | cons r t ih => exact .cons r ih
noncomputable def RelO : Option V → Option Value → Prop
 | some v, some u => RelV v u
 | none, none => True
 | _, _ => False
noncomputable def KV {κ : Type} : List (κ × V) → List (κ × Value) → Prop := Paired fun (p : κ × V) (q : κ × Value) => p.1 = q.1 ∧ RelV p.2 q.2
noncomputable def kV : Key → V
 | .inl i => .int i
 | .inr x => .str x
inductive HO where
  | lst (xs : List V)
  | tup (xs : List V)
  | dK (kvs : List (Key × V)) | dT (kvs : List (List Key × V))
  | set (S : Int → Bool) (n : Nat)
  | ins (C dx : Addr) (fs : List (Str × V))
  | own (x : Addr)
  | xd (fs : List (Str × V))
  | met (f x : Addr)
  | rng (lo hi : Int)
  | frz (o : Obj) (u : HO)
  | tbl (ps : Array Value)
  | ext (φ : Heap → Prop)
noncomputable abbrev Hp := Addr → Option HO
noncomputable def upd (H : Hp) (a : Addr) (o : HO) : Hp := fun b => if b = a then some o else H b
theorem upd_same {H : Hp} {a : Addr} {o : HO} : upd H a o a = some o := by unfold upd; rw [if_pos rfl]
theorem upd_ne {H : Hp} {a b : Addr} {o : HO} (h : b ≠ a) : upd H a o b = H b := by unfold upd; rw [if_neg h]
theorem ne_of_none {H : Hp} {a b : Addr} {o : HO} (h : H a = some o) (h' : H b = none) : a ≠ b := by
 intro e; subst e; rw [h] at h'; cases h'
section
variable (P : Program) (w : World)
noncomputable def ObjOk (H : Hp) (h : Heap) (a : Addr) : HO → Prop
 | .lst xs => xs.length ≤ sizeLine ∧ ∃ (its : List Value) (n : Nat), Vals xs its ∧ h.get? a = some { cls := .type "list", data := .seq its.toArray n }
 | .tup xs => xs.length ≤ sizeLine ∧ ∃ its : List Value, Vals xs its ∧ IsTup h a its.toArray
 | .dK kvs => kvs.length ≤ sizeLine ∧ (a == sysModules) = false ∧ ∃ vs, KV kvs vs ∧ h.DictOf (mixKind P w) a vs
 | .dT kvs => kvs.length ≤ sizeLine ∧ (a == sysModules) = false ∧ ∃ xs : List (List Key × Addr × Value),
   Paired (fun (p : List Key × V) (q : List Key × Addr × Value) => p.1 = q.1 ∧ H q.2.1 = some (.tup (p.1.map kV)) ∧ RelV p.2 q.2.2) kvs xs ∧
   ∃ o es ep, h.get? a = some o ∧ o.ExactDict ∧ o.data = .dict es ep ∧ es.toList = xs.map (entryOfKey (tupleKind (mixKind P w))) ∧ (xs.map (·.1)).Nodup
 | .set S n => h.SetOf (intKind P w) a S n
 | .ins C dx fs => H dx = some (.own a) ∧ fs.length ≤ 1000 ∧ dx ≠ a ∧ h.get? a = some (PySem.W.instObj C dx) ∧
   ∃ mA, h.Ns1 dx mA ∧ (∀ f, RelO (fs.lookup f) (mA f)) ∧ PySem.Within mA (fs.map (·.1))
 | .own _ => ∃ o, h.get? a = some o
 | .xd fs => ∃ mA, h.Ns1 a mA ∧ ∀ f, RelO (fs.lookup f) (mA f)
 | .rng lo hi => ∃ t u v, h.get? a = some { cls := .type "range", data := .fields #[.int lo t, .int hi u, .int 1 v] }
 | .frz o u => h.get? a = some o ∧ ObjOk H h a u
 | .tbl ps => h.get? a = some { cls := .none, data := .fields ps }
 | .met f x => h.get? a = some (PySem.W.methodObj (.ref f) (.ref x))
 | .ext φ => φ h ∧ (∃ o, h.get? a = some o) ∧ ∀ h1 h2 : Heap, φ h1 → (∀ o, h1.get? a = some o → h2.get? a = some o) → φ h2
noncomputable def HOk (H : Hp) (h : Heap) : Prop := ∀ a o, H a = some o → ObjOk P w H h a o
end
section
variable {P : Program} {w : World} {H H' : Hp} {h h' : Heap} {a : Addr} {o : HO}
theorem ObjOk.lt (x : ObjOk P w H h a o) : a < h.objs.size := by
 cases o with
 | lst xs => obtain ⟨_, _, _, _, e⟩ := x; exact Heap.lt_size e
 | tup xs => obtain ⟨_, _, _, p⟩ := x; exact p.lt
 | dK kvs => obtain ⟨_, _, _, _, o, _, _, e, _⟩ := x; exact Heap.lt_size e
 | dT kvs => obtain ⟨_, _, _, _, o, _, _, e, _⟩ := x; exact Heap.lt_size e
 | set S n => obtain ⟨o, _, _, _, e, _⟩ := x; exact Heap.lt_size e
 | ins C dx fs => obtain ⟨_, _, _, e, _⟩ := x; exact Heap.lt_size e
 | own y => obtain ⟨_, e⟩ := x; exact Heap.lt_size e
 | xd fs => obtain ⟨_, ⟨_, _, _, e, _⟩, _⟩ := x; exact Heap.lt_size e
 | rng lo hi => obtain ⟨_, _, _, e⟩ := x; exact Heap.lt_size e
 | frz ob u => obtain ⟨e, _⟩ := x; exact Heap.lt_size e
 | tbl ps => exact Heap.lt_size (show h.get? a = some _ from x)
 | met f y => exact Heap.lt_size (show h.get? a = some _ from x)
 | ext φ => obtain ⟨_, ⟨_, e⟩, _⟩ := x; exact Heap.lt_size e
theorem Paired.mapP {α β : Type} {F G : α → β → Prop} : ∀ {l₁ : List α} {l₂ : List β}, Paired F l₁ l₂ → (∀ a b, F a b → G a b) → Paired G l₁ l₂ := by
 intro l₁ l₂ h f
 induction h with
 | nil => exact .nil
 | cons r t ih => exact .cons (f _ _ r) ih
theorem ObjOk.stay (x : ObjOk P w H h a o) (k : ∀ b u, (b = a ∨ H b = some (.own a)) → h.get? b = some u → h'.get? b = some u)
  (ho : ∀ b, H b = some (.own a) → H' b = some (.own a)) (ht : ∀ b xs, H b = some (.tup xs) → H' b = some (.tup xs)) : ObjOk P w H' h' a o := by
 induction o with
 | lst xs => obtain ⟨z, its, n, r, e⟩ := x; exact ⟨z, its, n, r, k _ _ (.inl rfl) e⟩
 | tup xs => obtain ⟨z, its, r, ob, e, c⟩ := x; exact ⟨z, its, r, ob, k _ _ (.inl rfl) e, c⟩
 | dK kvs => obtain ⟨z, y, vs, r, ob, es, ep, e, c⟩ := x; exact ⟨z, y, vs, r, ob, es, ep, k _ _ (.inl rfl) e, c⟩
 | dT kvs =>
  obtain ⟨z, y, xs, r, ob, es, ep, e, c⟩ := x
  exact ⟨z, y, xs, Paired.mapP r fun p q z => ⟨z.1, ht _ _ z.2.1, z.2.2⟩, ob, es, ep, k _ _ (.inl rfl) e, c⟩
 | set S n => obtain ⟨ob, es, ep, t, e, c⟩ := x; exact ⟨ob, es, ep, t, k _ _ (.inl rfl) e, c⟩
 | ins C dx fs =>
  obtain ⟨d, z, ne, e, mA, ⟨od, es, ep, e2, c⟩, r⟩ := x
  exact ⟨ho _ d, z, ne, k _ _ (.inl rfl) e, mA, ⟨od, es, ep, k _ _ (.inr d) e2, c⟩, r⟩
 | own y => obtain ⟨ob, e⟩ := x; exact ⟨ob, k _ _ (.inl rfl) e⟩
 | xd fs => obtain ⟨mA, ⟨od, es, ep, e, c⟩, r⟩ := x; exact ⟨mA, ⟨od, es, ep, k _ _ (.inl rfl) e, c⟩, r⟩
 | rng lo hi => obtain ⟨t, u, v, e⟩ := x; exact ⟨t, u, v, k _ _ (.inl rfl) e⟩
 | frz ob u ih => obtain ⟨e, q⟩ := x; exact ⟨k _ _ (.inl rfl) e, ih q⟩
 | tbl ps =>
  have e : h.get? a = some { cls := .none, data := .fields ps } := x
  show h'.get? a = some { cls := .none, data := .fields ps }
  exact k a _ (.inl rfl) e
 | met f y =>
  have e : h.get? a = some (PySem.W.methodObj (.ref f) (.ref y)) := x
  show h'.get? a = some (PySem.W.methodObj (.ref f) (.ref y))
  exact k a _ (.inl rfl) e
 | ext φ => obtain ⟨p, ⟨o, e⟩, st⟩ := x; exact ⟨st _ _ p fun o q => k _ _ (.inl rfl) q, ⟨o, k _ _ (.inl rfl) e⟩, st⟩
theorem HOk.lt (x : HOk P w H h) (e : H a = some o) : a < h.objs.size := (x a o e).lt
theorem HOk.fresh (x : HOk P w H h) (e : h.objs.size ≤ a) : H a = none := by
 cases q : H a with
 | none => rfl
 | some u => exact absurd (Nat.lt_of_lt_of_le (x.lt q) e) (Nat.lt_irrefl _)
theorem HOk.kept (x : HOk P w H h) (k : ∀ b u, h.get? b = some u → h'.get? b = some u) : HOk P w H h' := fun a o e =>
 (x a o e).stay (fun b u _ q => k b u q) (fun _ q => q) fun _ _ q => q
theorem HOk.laid (x : HOk P w H h) (k : ∀ b u, h.get? b = some u → h'.get? b = some u) (hp : h.objs.size ≤ a) (new : ObjOk P w (upd H a o) h' a o) : HOk P w (upd H a o) h' := fun b u e => by
 have hn := x.fresh hp
 by_cases hb : b = a
 ·subst hb; rw [upd_same] at e; cases e; exact new
 ·rw [upd_ne hb] at e
  exact (x b u e).stay (fun c v _ q => k c v q) (fun c q => by rw [upd_ne (ne_of_none q hn)]; exact q) fun c xs q => by rw [upd_ne (ne_of_none q hn)]; exact q
end
noncomputable def Rd (H : Hp) (a : Addr) (u : HO) : Prop := H a = some u ∨ ∃ o, H a = some (.frz o u)
theorem Rd.ok {P : Program} {w : World} {H : Hp} {h : Heap} {a : Addr} {u : HO} (r : Rd H a u) (x : HOk P w H h) : ObjOk P w H h a u := by
 rcases r with r | ⟨o, r⟩
 ·exact x a u r
 ·obtain ⟨_, q⟩ := x a _ r
  exact q
noncomputable def Mut : Option HO → Prop
 | some (.lst _) => True
 | some (.dK _) => True
 | some (.dT _) => True
 | some (.set _ _) => True
 | some (.ins _ _ _) => True
 | some (.ext _) => True
 | _ => False
section
variable {P : Program} {w : World} {H : Hp} {h h' : Heap} {x e : Addr} {o' : HO}
theorem HOk.write (ok : HOk P w H h) (mu : Mut (H x)) (he : e = x ∨ H e = some (.own x)) (k : ∀ b u, b ≠ e → h.get? b = some u → h'.get? b = some u) (heo : ∃ u, h'.get? e = some u)
  (new : ObjOk P w (upd H x o') h' x o') : HOk P w (upd H x o') h' := fun b u q => by
 have nown : ∀ c y, H c = some (.own y) → c ≠ x := fun c y r z => by subst z; rw [r] at mu; exact mu
 have ntup : ∀ c xs, H c = some (.tup xs) → c ≠ x := fun c xs r z => by subst z; rw [r] at mu; exact mu
 by_cases hb : b = x
 ·subst hb; rw [upd_same] at q; cases q; exact new
 ·rw [upd_ne hb] at q
  by_cases hbe : b = e
  ·have q' : H b = some (.own x) := by
    rcases he with z | z
    ·exact absurd (hbe.trans z) hb
    ·rw [hbe]; exact z
   rw [q] at q'; cases q'
   obtain ⟨v, hv⟩ := heo
   exact ⟨v, by rw [hbe]; exact hv⟩
  ·refine (ok b u q).stay (fun c v hc r => k c v ?_ r) (fun c r => by rw [upd_ne (nown c b r)]; exact r) fun c xs r => by rw [upd_ne (ntup c xs r)]; exact r
   rcases hc with rfl | hc
   ·exact hbe
   ·rintro rfl
    rcases he with z | z
    ·exact nown c b hc z
    ·rw [hc] at z; cases z; exact hb rfl
end
structure Un (fs ex : List Addr) (H H' : Hp) (h h' : Heap) : Prop where
 keep : ∀ b o, h.get? b = some o → H b = none → b ∉ fs → b ∉ ex → h'.get? b = some o
 slot : ∀ b o, h.get? b = some o → H b = none → b ∈ fs → b ∉ ex → ∃ sl, h'.get? b = some { o with slots := sl }
 free : ∀ b o, h.get? b = some o → H b = none → b ∉ ex → H' b = none
 there : ∀ b o, h.get? b = some o → b ∉ ex → ∃ o', h'.get? b = some o'
 tups : ∀ b xs, H b = some (.tup xs) → H' b = some (.tup xs)
 frzs : ∀ b o u, H b = some (.frz o u) → H' b = some (.frz o u)
 tbls : ∀ b ps, H b = some (.tbl ps) → ∃ more, H' b = some (.tbl (ps ++ more))
section
variable {fs fs' ex ex' : List Addr} {H H1 H2 : Hp} {h h1 h2 h' : Heap} {a x e : Addr} {o : HO}
theorem Un.any (u : Un fs ex H H1 h h1) {b : Addr} {ob : Obj} (q : h.get? b = some ob) (n : H b = none) (hx : b ∉ ex) : ∃ sl, h1.get? b = some { ob with slots := sl } := by
 by_cases hb : b ∈ fs
 ·exact u.slot b ob q n hb hx
 ·exact ⟨ob.slots, u.keep b ob q n hb hx⟩
theorem Un.kept (k : ∀ b u, h.get? b = some u → h'.get? b = some u) : Un fs ex H H h h' :=
 ⟨fun b ob q _ _ _ => k b ob q, fun b ob q _ _ _ => ⟨ob.slots, k b ob q⟩, fun _ _ _ n _ => n, fun b ob q _ => ⟨ob, k b ob q⟩, fun _ _ q => q, fun _ _ _ q => q, fun _ ps q => ⟨#[], by rw [q]; simp⟩⟩
theorem Un.refl : Un fs ex H H h h := Un.kept fun _ _ q => q
theorem Un.laid (k : ∀ b u, h.get? b = some u → h'.get? b = some u) (hp : h.objs.size ≤ a) (hn : H a = none) : Un fs ex H (upd H a o) h h' where
 keep := fun b u q _ _ _ => k b u q
 slot := fun b u q _ _ _ => ⟨u.slots, k b u q⟩
 free := fun b u q n _ => by rw [upd_ne (Nat.ne_of_lt (Nat.lt_of_lt_of_le (Heap.lt_size q) hp))]; exact n
 there := fun b u q _ => ⟨u, k b u q⟩
 tups := fun b xs q => by rw [upd_ne (ne_of_none q hn)]; exact q
 frzs := fun b u xs q => by rw [upd_ne (ne_of_none q hn)]; exact q
 tbls := fun b ps q => ⟨#[], by rw [upd_ne (ne_of_none q hn), q]; simp⟩
theorem Un.write (mu : Mut (H x)) (he : e = x ∨ H e = some (.own x)) (k : ∀ b u, b ≠ e → h.get? b = some u → h'.get? b = some u) (heo : ∃ u, h'.get? e = some u) : Un fs ex H (upd H x o) h h' := by
 have hx : ∀ b, H b = none → b ≠ x := fun b n z => by subst z; rw [n] at mu; exact mu
 have hb : ∀ b, H b = none → b ≠ e := fun b n z => by
  subst z
  rcases he with r | r
  ·exact hx b n r
  ·rw [n] at r; cases r
 have hm : ∀ b u, H b = some u → ¬ Mut (some u) → b ≠ x := fun b u q nm z => by subst z; rw [q] at mu; exact nm mu
 refine ⟨fun b u q n _ _ => k b u (hb b n) q, fun b u q n _ _ => ⟨u.slots, k b u (hb b n) q⟩, fun b u q n _ => by rw [upd_ne (hx b n)]; exact n, fun b u q _ => ?_,
  fun b xs q => by rw [upd_ne (hm b _ q fun z => z)]; exact q, fun b u xs q => by rw [upd_ne (hm b _ q fun z => z)]; exact q, fun b ps q => ⟨#[], by rw [upd_ne (hm b _ q fun z => z), q]; simp⟩⟩
 by_cases hbe : b = e
 ·subst hbe; exact heo
 ·exact ⟨u, k b u hbe q⟩
end
noncomputable def trk (h : Heap) (H : Hp) : List Addr := (List.range h.objs.size).filter fun a => (H a).isSome
noncomputable def hidT (h : Heap) (H : Hp) : Heap := PySem.W.hideAll h (trk h H)
theorem hidT_size (h : Heap) (H : Hp) : (hidT h H).objs.size = h.objs.size := PySem.W.hideAll_size _ _
theorem hidT_get {h : Heap} {H : Hp} {b : Addr} {o : Obj} (e : h.get? b = some o) (n : H b = none) : (hidT h H).get? b = some o :=
 PySem.W.hideAll_get _ e fun hm => by
  have q : (H b).isSome = true := (List.mem_filter.mp hm).2
  rw [n] at q; simp at q
theorem of_hidT {h : Heap} {H : Hp} {b : Addr} {o : Obj} (e : (hidT h H).get? b = some o) : h.get? b = some o ∧ H b = none := by
 have e' : h.get? b = some o := PySem.W.of_hideAll (trk h H) e
 refine ⟨e', ?_⟩
 cases q : H b with
 | none => rfl
 | some x =>
  have hm : b ∈ trk h H := List.mem_filter.mpr ⟨List.mem_range.mpr (Heap.lt_size e'), by simp [q]⟩
  have z : (hidT h H).get? b = none := PySem.W.hideAll_none (trk h H) hm
  rw [z] at e; cases e
noncomputable def allNews (g h : Heap) (L : Addr) : List (Addr × Obj) := (List.range h.objs.size).filterMap fun a => if a = L ∨ (g.get? a).isSome = true then none else (h.get? a).map fun o => (a, o)
noncomputable def rest (g h : Heap) (L d : Addr) : List (Addr × Obj) := (allNews g h L).filter fun p => decide (p.1 ≠ d)
end L2
namespace L2
open PySem PySem.Spec PyProof.Rows
structure Mod (K : PySem.W.Frag) (mg : Str → Option Value) (base : Heap) : Prop where
 kin : K.In base
 glob : base.Ns mainGlobals mg
 blt : ∃ mb, base.Ns builtinsNs mb ∧ ∀ x : Str, x ≠ "__name__" → mb x = bootBuiltins x
 nolimit : base.NoLimit
structure Cx where
 prog : Program
 w : World
 K : PySem.W.Frag
 mg : Str → Option Value
 base : Heap
 A : Around
 N : List Str
 s₀ : Shared
 H₀ : Hp
 env : Env
 outer : List Env
 stack : List Env
 ex : List Addr
 fn : Str → Bool
 calm : Bool
 pn : List (Addr × Obj)
 xe : Value → Shared → Prop
noncomputable def frs (l : List Env) : List Addr := l.filterMap (·.frame)
noncomputable abbrev Cx.fs (X : Cx) : List Addr := frs X.outer
noncomputable def Vis (sc : Scope) (x : Str) : Prop := sc.names.lookup x = some .local ∨ sc.names.lookup x = some .cell ∨ sc.names.lookup x = some .free
noncomputable def Loc (sc : Scope) (x : Str) : Prop := sc.names.lookup x = some .local ∨ sc.names.lookup x = some .cell
noncomputable def Look (env : Env) (h : Heap) (m : Str → Option Value) (x : Str) (u : Value) : Prop :=
 (env.kindOf x = some .local ∧ m x = some u) ∨ ((env.kindOf x = some .cell ∨ env.kindOf x = some .free) ∧ ∃ c, env.cells.lookup x = some c ∧ h.IsCell c (some u))
structure Cx.Ok (X : Cx) : Prop where
 mod : Mod X.K X.mg X.base
 kind : X.env.scope.kind = .function
 glob : X.env.globals = mainGlobals
 blt : X.env.builtins = builtinsNs
 above : X.s₀.heap.objs.size ≤ X.env.locals
 inj : ∀ x y c, X.env.cells.lookup x = some c → X.env.cells.lookup y = some c → x = y
 has : ∀ x, (X.env.kindOf x = some .cell ∨ X.env.kindOf x = some .free) → ∃ c, X.env.cells.lookup x = some c
 cab : ∀ x c, X.fn x = true → X.env.cells.lookup x = some c → X.s₀.heap.objs.size ≤ c
 hd : X.calm = true → X.A.handled = none
 frames : X.A.frames = some X.stack
 stk : X.stack = X.outer ∨ (X.stack = X.env :: X.outer ∧ X.env.frame = some X.env.locals)
 exf : ∀ b ∈ X.ex, b ≠ X.env.locals ∧ ∀ x c, X.env.cells.lookup x = some c → c ≠ b
 bs : ∀ b o, X.base.get? b = some o → X.s₀.heap.get? b = some o ∧ X.H₀ b = none
 bsz : X.base.objs.size ≤ X.s₀.heap.objs.size
 noex : ∀ b o, X.base.get? b = some o → b ∉ X.ex
 exfs : ∀ b ∈ X.ex, b ∉ X.fs
 funs : X.s₀.heap.FunFrames X.base X.outer
 frf : ∀ b ∈ X.fs, X.H₀ b = none
structure Inv (X : Cx) (pins : List (Addr × Obj)) (σ : List (Option V)) (H : Hp) (s : Shared) : Prop where
 ok : X.Ok
 os : s.os = X.s₀.os
 bare : AllBare s.gens
 base : Un X.fs X.ex X.H₀ H X.s₀.heap s.heap
 loc : ∃ m, s.heap.Ns X.env.locals m ∧ ∀ (i : Nat) (x : Str) (v : V), X.N[i]? = some x → σ[i]? = some (some v) → Vis X.env.scope x → ∃ u, RelV v u ∧ Look X.env s.heap m x u
 cell : ∀ x c, X.env.cells.lookup x = some c → ∃ v, s.heap.IsCell c v
 free : H X.env.locals = none
 freeC : ∀ x c, X.env.cells.lookup x = some c → H c = none
 pin : ∀ p ∈ X.pn ++ pins, s.heap.get? p.1 = some p.2 ∧ H p.1 = none ∧ p.1 ≠ X.env.locals ∧ p.1 ∉ X.fs ∧ ∀ v, p.2.data ≠ .cell v
 hok : HOk X.prog X.w H s.heap
 len : σ.length = X.N.length
section
variable {X : Cx} {pins : List (Addr × Obj)} {σ : List (Option V)} {H H' : Hp} {s : Shared} {h' : Heap}
theorem Cx.Ok.nofr (ok : X.Ok) {b : Addr} {o : Obj} (e : X.base.get? b = some o) : b ∉ X.fs := fun hb => by
 have := (ok.funs.mem hb).1
 rw [e] at this; cases this
theorem Inv.bs (I : Inv X pins σ H s) : ∀ b o, X.base.get? b = some o → s.heap.get? b = some o ∧ H b = none := fun b o e =>
 ⟨I.base.keep b o (I.ok.bs b o e).1 (I.ok.bs b o e).2 (I.ok.nofr e) (I.ok.noex b o e), I.base.free b o (I.ok.bs b o e).1 (I.ok.bs b o e).2 (I.ok.noex b o e)⟩
theorem Inv.bk (I : Inv X pins σ H s) : ∀ b o, X.base.get? b = some o → s.heap.get? b = some o := fun b o e => (I.bs b o e).1
theorem Inv.mod (I : Inv X pins σ H s) : Mod X.K X.mg X.base := I.ok.mod
theorem Inv.kIn (I : Inv X pins σ H s) : X.K.In s.heap := I.ok.mod.kin.keeps I.bk
theorem Inv.lt (I : Inv X pins σ H s) : X.env.locals < s.heap.objs.size := let ⟨_, hn, _⟩ := I.loc; hn.lt
theorem Inv.sz (I : Inv X pins σ H s) : X.s₀.heap.objs.size ≤ s.heap.objs.size := Nat.le_trans I.ok.above (Nat.le_of_lt I.lt)
theorem Inv.nofs (I : Inv X pins σ H s) {a : Addr} (h : s.heap.objs.size ≤ a) : a ∉ X.fs := fun hb => by
 obtain ⟨_, o, ho, _⟩ := I.ok.funs.mem hb
 exact absurd (Nat.lt_of_lt_of_le (Heap.lt_size ho) (Nat.le_trans I.sz h)) (Nat.lt_irrefl _)
theorem Inv.cne (I : Inv X pins σ H s) : ∀ x c, X.env.cells.lookup x = some c → c ≠ X.env.locals := fun x c e z => by
 obtain ⟨v, o, ho, hd⟩ := I.cell x c e
 obtain ⟨m, ⟨o', es, ep, ho', hd', _⟩, _⟩ := I.loc
 rw [z, ho'] at ho; cases ho; rw [hd'] at hd; cases hd
theorem Inv.funs (I : Inv X pins σ H s) : s.heap.FunFrames X.base X.outer := by
 have all : ∀ (l : List Env), (∀ b ∈ frs l, b ∈ X.fs) → X.s₀.heap.FunFrames X.base l → s.heap.FunFrames X.base l := by
  intro l
  induction l with
  | nil => intro _ _; trivial
  | cons env r ih =>
   intro hs hl
   obtain ⟨hk, ⟨L, o, hf, hn, ho, hd⟩, hr⟩ := hl
   have hL : L ∈ X.fs := hs L (by unfold frs; rw [List.filterMap_cons, hf]; exact List.mem_cons_self)
   obtain ⟨sl, e⟩ := I.base.slot L o ho (I.ok.frf L hL) hL fun z => I.ok.exfs L z hL
   exact ⟨hk, ⟨L, _, hf, hn, e, hd⟩, ih (fun b hb => hs b (by unfold frs; rw [List.filterMap_cons, hf]; exact List.mem_cons_of_mem _ hb)) hr⟩
 exact all X.outer (fun _ hb => hb) I.ok.funs
theorem Inv.stack (I : Inv X pins σ H s) : s.heap.FunFrames X.base X.stack := by
 rcases I.ok.stk with e | ⟨e, hf⟩
 ·rw [e]; exact I.funs
 ·rw [e]
  obtain ⟨m, hn, _⟩ := I.loc
  refine .cons (by rw [I.ok.kind]; decide) hf hn ?_ I.funs
  exact Heap.get?_none_of_le (Nat.le_trans I.ok.bsz I.ok.above)
theorem Inv.stkSub (I : Inv X pins σ H s) : ∀ b ∈ frs X.stack, b ∈ X.env.locals :: X.fs := fun b hb => by
 rcases I.ok.stk with e | ⟨e, hf⟩
 ·rw [e] at hb; exact List.mem_cons_of_mem _ hb
 ·rw [e] at hb
  unfold frs at hb
  rw [List.filterMap_cons, hf] at hb
  exact hb
theorem Inv.stkFree (I : Inv X pins σ H s) : ∀ b ∈ frs X.stack, H b = none := fun b hb => by
 rcases List.mem_cons.mp (I.stkSub b hb) with e | hb
 ·rw [e]; exact I.free
 ·obtain ⟨_, o, ho, _⟩ := I.ok.funs.mem hb
  exact I.base.free b o ho (I.ok.frf b hb) fun z => I.ok.exfs b z hb
theorem Inv.step {g' : Array GenState} {t' : Nat} {d' : Drawn} {ch : List Addr} (I : Inv X pins σ H s)
  (hch : ∀ b ∈ ch, (b ∈ X.ex ∨ X.s₀.heap.objs.size ≤ b) ∧ b ≠ X.env.locals ∧ (∀ x c, X.env.cells.lookup x = some c → c ≠ b) ∧ ∀ p ∈ X.pn ++ pins, p.1 ≠ b)
  (keep : ∀ b o, b ≠ X.env.locals → b ∉ X.fs → b ∉ ch → s.heap.get? b = some o → H b = none → h'.get? b = some o)
  (slot : ∀ b o, b ≠ X.env.locals → b ∈ X.fs → b ∉ ch → s.heap.get? b = some o → H b = none → ∃ sl, h'.get? b = some { o with slots := sl }) (free : ∀ b o, b ∉ ch → s.heap.get? b = some o → H b = none → H' b = none)
  (there : ∀ b o, b ∉ ch → s.heap.get? b = some o → ∃ o', h'.get? b = some o')
  (tups : ∀ b xs, H b = some (.tup xs) → H' b = some (.tup xs)) (frzs : ∀ b o u, H b = some (.frz o u) → H' b = some (.frz o u)) (tbls : ∀ b ps, H b = some (.tbl ps) → ∃ more, H' b = some (.tbl (ps ++ more)))
  (ns : ∀ m, s.heap.Ns X.env.locals m → h'.Ns X.env.locals m) (hok : HOk X.prog X.w H' h') (hg : AllBare g') :
  Inv X pins σ H' { s with heap := h', gens := g', drawn := d', toks := t' } := by
 have neL : ∀ b o, X.s₀.heap.get? b = some o → b ≠ X.env.locals := fun b o e => Nat.ne_of_lt (Nat.lt_of_lt_of_le (Heap.lt_size e) I.ok.above)
 have neC : ∀ b o, X.s₀.heap.get? b = some o → b ∉ X.ex → b ∉ ch := fun b o e hx hb => by
  rcases (hch b hb).1 with z | z
  ·exact hx z
  ·exact absurd (Nat.lt_of_lt_of_le (Heap.lt_size e) z) (Nat.lt_irrefl _)
 have cellK : ∀ x c, X.env.cells.lookup x = some c → ∀ v, s.heap.IsCell c v → h'.IsCell c v := fun x c e v hq0 => by
  obtain ⟨o, ho, hd⟩ := hq0
  have nch : c ∉ ch := fun z => (hch c z).2.2.1 x c e rfl
  by_cases hc : c ∈ X.fs
  ·obtain ⟨sl, q⟩ := slot c o (I.cne x c e) hc nch ho (I.freeC x c e)
   exact ⟨_, q, hd⟩
  ·exact ⟨o, keep c o (I.cne x c e) hc nch ho (I.freeC x c e), hd⟩
 refine ⟨I.ok, I.os, hg, ⟨fun b o e n hb hx => ?_, fun b o e n hb hx => ?_, fun b o e n hx => ?_, fun b o e hx => ?_, fun b xs e => tups b xs (I.base.tups b xs e), fun b o xs e => frzs b o xs (I.base.frzs b o xs e), fun b ps e => ?_⟩, ?_, fun x c e => ?_, ?_, fun x c e => ?_, fun p hp => ?_, hok, I.len⟩
 ·exact keep b o (neL b o e) hb (neC b o e hx) (I.base.keep b o e n hb hx) (I.base.free b o e n hx)
 ·obtain ⟨sl, e1⟩ := I.base.slot b o e n hb hx
  obtain ⟨sl', e2⟩ := slot b _ (neL b o e) hb (neC b o e hx) e1 (I.base.free b o e n hx)
  exact ⟨sl', e2⟩
 ·obtain ⟨o', e1⟩ := I.base.there b o e hx
  exact free b o' (neC b o e hx) e1 (I.base.free b o e n hx)
 ·obtain ⟨o', e1⟩ := I.base.there b o e hx
  exact there b o' (neC b o e hx) e1
 ·obtain ⟨m1, e1⟩ := I.base.tbls b ps e
  obtain ⟨m2, e2⟩ := tbls b _ e1
  exact ⟨m1 ++ m2, by rw [e2, Array.append_assoc]⟩
 ·obtain ⟨m, hn, hl⟩ := I.loc
  refine ⟨m, ns m hn, fun i x v e1 e2 e3 => ?_⟩
  obtain ⟨u, r, l⟩ := hl i x v e1 e2 e3
  refine ⟨u, r, ?_⟩
  rcases l with l | ⟨k, c, e, z⟩
  ·exact .inl l
  ·exact .inr ⟨k, c, e, cellK x c e _ z⟩
 ·obtain ⟨v, z⟩ := I.cell x c e
  exact ⟨v, cellK x c e v z⟩
 ·obtain ⟨m, ⟨o, _, _, ho, _⟩, _⟩ := I.loc
  exact free _ o (fun z => (hch _ z).2.1 rfl) ho I.free
 ·obtain ⟨v, o, ho, hd⟩ := I.cell x c e
  exact free c o (fun z => (hch c z).2.2.1 x c e rfl) ho (I.freeC x c e)
 ·obtain ⟨e, n, ne, nf, d⟩ := I.pin p hp
  have nch : p.1 ∉ ch := fun z => (hch p.1 z).2.2.2 p hp rfl
  exact ⟨keep p.1 p.2 ne nf nch e n, free p.1 p.2 nch e n, ne, nf, d⟩
theorem Inv.un {t' : Nat} (I : Inv X pins σ H s) (u : Un X.fs [] H H' s.heap h') (hok : HOk X.prog X.w H' h') : Inv X pins σ H' { s with heap := h', toks := t' } := by
 obtain ⟨m, ⟨o, es, ep, ho, r⟩, _⟩ := id I.loc
 obtain ⟨sl, hL⟩ := u.any ho I.free (by simp)
 exact I.step (g' := s.gens) (d' := s.drawn) (ch := []) (fun _ z => nomatch z) (fun b o _ hb _ e n => u.keep b o e n hb (by simp)) (fun b o _ hb _ e n => u.slot b o e n hb (by simp)) (fun b o _ e n => u.free b o e n (by simp)) (fun b o _ e => u.there b o e (by simp)) u.tups u.frzs u.tbls (fun m' hm => by
  obtain ⟨o', es', ep', ho', r'⟩ := hm
  rw [ho] at ho'; cases ho'
  exact ⟨_, es', ep', hL, r'⟩) hok I.bare
theorem Inv.call {g' : Array GenState} {t' : Nat} {d' : Drawn} {ch : List Addr} (I : Inv X pins σ H s) (u : Un (frs X.stack) ch H H' s.heap h') (hok : HOk X.prog X.w H' h') (hg : AllBare g')
  (hch : ∀ b ∈ ch, (b ∈ X.ex ∨ X.s₀.heap.objs.size ≤ b) ∧ b ≠ X.env.locals ∧ (∀ x c, X.env.cells.lookup x = some c → c ≠ b) ∧ ∀ p ∈ X.pn ++ pins, p.1 ≠ b) :
  Inv X pins σ H' { s with heap := h', gens := g', drawn := d', toks := t' } := by
 obtain ⟨m, ⟨o, es, ep, ho, r⟩, _⟩ := id I.loc
 obtain ⟨sl, hL⟩ := u.any ho I.free fun z => (hch _ z).2.1 rfl
 exact I.step (ch := ch) hch (fun b o hL hb hc e n => u.keep b o e n (fun z => (List.mem_cons.mp (I.stkSub b z)).elim hL hb) hc) (fun b o _ _ hc e n => u.any e n hc) (fun b o hc e n => u.free b o e n hc) (fun b o hc e => u.there b o e hc) u.tups u.frzs u.tbls (fun m' hm => by
  obtain ⟨o', es', ep', ho', r'⟩ := hm
  rw [ho] at ho'; cases ho'
  exact ⟨_, es', ep', hL, r'⟩) hok hg
theorem Inv.turned {t' : Nat} {it : Addr} (I : Inv X pins σ H s) (k : ∀ b o, b ≠ it → s.heap.get? b = some o → h'.get? b = some o) (hn : H it = none) (hL : it ≠ X.env.locals)
  (h1 : it ∈ X.ex ∨ X.s₀.heap.objs.size ≤ it) (h2 : ∀ x c, X.env.cells.lookup x = some c → c ≠ it) (h3 : ∀ p ∈ X.pn ++ pins, p.1 ≠ it) : Inv X pins σ H { s with heap := h', toks := t' } := by
 have nit : ∀ b u, H b = some u → b ≠ it := fun b u e z => by rw [z, hn] at e; cases e
 refine I.step (g' := s.gens) (d' := s.drawn) (ch := [it]) (fun b hb => ?_) (fun b o _ _ hc e _ => k b o (fun z => hc (by simp [z])) e) (fun b o _ _ hc e _ => ⟨o.slots, k b o (fun z => hc (by simp [z])) e⟩) (fun _ _ _ _ n => n)
  (fun b o hc e => ⟨o, k b o (fun z => hc (by simp [z])) e⟩) (fun _ _ e => e) (fun _ _ _ e => e) (fun b ps e => ⟨#[], by rw [e]; simp⟩) (fun m hm => ?_) (fun b u e => ?_) I.bare
 ·have e : b = it := by simpa using hb
  subst e
  exact ⟨h1, hL, h2, h3⟩
 ·obtain ⟨o, es, ep, ho, r⟩ := hm
  exact ⟨o, es, ep, k _ o (Ne.symm hL) ho, r⟩
 ·refine (I.hok b u e).stay (fun c v hc q => k c v ?_ q) (fun _ q => q) fun _ _ q => q
  rcases hc with z | z
  ·rw [z]; exact nit b u e
  ·exact nit c _ z
theorem Inv.tok (I : Inv X pins σ H s) (t : Nat) : Inv X pins σ H { s with toks := t } := I.un (h' := s.heap) (t' := t) Un.refl I.hok
theorem Inv.kept {t' : Nat} (I : Inv X pins σ H s) (k : ∀ b u, s.heap.get? b = some u → h'.get? b = some u) : Inv X pins σ H { s with heap := h', toks := t' } := I.un (Un.kept k) (I.hok.kept k)
theorem Inv.laid {a : Addr} {o : HO} {t' : Nat} (I : Inv X pins σ H s) (k : ∀ b u, s.heap.get? b = some u → h'.get? b = some u) (hp : s.heap.objs.size ≤ a) (new : ObjOk X.prog X.w (upd H a o) h' a o) :
  Inv X pins σ (upd H a o) { s with heap := h', toks := t' } := I.un (Un.laid k hp (I.hok.fresh hp)) (I.hok.laid k hp new)
theorem Inv.write {x e : Addr} {o : HO} {t' : Nat} (I : Inv X pins σ H s) (mu : Mut (H x)) (he : e = x ∨ H e = some (.own x)) (k : ∀ b u, b ≠ e → s.heap.get? b = some u → h'.get? b = some u) (heo : ∃ u, h'.get? e = some u)
  (new : ObjOk X.prog X.w (upd H x o) h' x o) : Inv X pins σ (upd H x o) { s with heap := h', toks := t' } := I.un (Un.write mu he k heo) (I.hok.write mu he k heo new)
theorem Inv.pins_of {pins' : List (Addr × Obj)} (I : Inv X pins σ H s) (h : ∀ p ∈ pins', s.heap.get? p.1 = some p.2 ∧ H p.1 = none ∧ p.1 ≠ X.env.locals ∧ p.1 ∉ X.fs ∧ ∀ v, p.2.data ≠ .cell v) : Inv X pins' σ H s :=
 ⟨I.ok, I.os, I.bare, I.base, I.loc, I.cell, I.free, I.freeC, fun p hp => (List.mem_append.mp hp).elim (fun z => I.pin p (List.mem_append_left _ z)) (h p), I.hok, I.len⟩
theorem nodup_ix {N : List Str} (hN : N.Nodup) {i j : Nat} {x : Str} (a : N[i]? = some x) (b : N[j]? = some x) : i = j := by
 obtain ⟨h1, e1⟩ := List.getElem?_eq_some_iff.mp a
 obtain ⟨h2, e2⟩ := List.getElem?_eq_some_iff.mp b
 exact (List.getElem_inj hN).mp (e1.trans e2.symm)
theorem store_ok2 {M : Model} {A : Around} {E : Value → Shared → Prop} {i : Nat} {x : Str} {v : V} {u : Value} {Q : Unit → Shared → Prop} (I : Inv X pins σ H s) (hN : X.N.Nodup) (hi : X.N[i]? = some x) (hx : Loc X.env.scope x) (r : RelV v u)
  (h : ∀ s', Inv X pins (σ.set i (some v)) H s' → (∃ a, Heap.SameBut a s.heap s'.heap ∧ (a = X.env.locals ∨ X.env.cells.lookup x = some a)) → Q () s') (hf : autoParam (X.fn x = true ∨ X.env.scope.names.lookup x = some .local) Ax0._auto_1) : wpAny M A (storeName X.env x u) Q E s := by
 obtain ⟨m, hn, hl⟩ := id I.loc
 have hcls : (X.env.scope.kind == .class || (X.env.scope.kind == .module && X.env.locals != X.env.globals)) = false := by rw [I.ok.kind]; rfl
 have hiσ : i < σ.length := by rw [I.len]; exact (List.getElem?_eq_some_iff.mp hi).1
 have cne := I.cne
 have tracked : ∀ {a : Addr} {h' : Heap}, (∃ o, s.heap.get? a = some o ∧ H a = none) → Heap.SameBut a s.heap h' → HOk X.prog X.w H h' := fun {a h'} ha hs b ob e => by
  obtain ⟨_, _, hfree⟩ := ha
  refine (I.hok b ob e).stay (fun c w' hc q => (hs.2 c ?_).trans q) (fun _ q => q) fun _ _ q => q
  rintro rfl
  rcases hc with rfl | hc
  ·rw [hfree] at e; cases e
  ·rw [hfree] at hc; cases hc
 rcases hx with hk | hk
 ·refine wpAny_storeName_local hk hn (fun h' hn' hs => ?_) hcls
  obtain ⟨oL, _, _, hoL, _⟩ := id hn
  refine h _ ⟨I.ok, I.os, I.bare, ⟨fun b o e n hb hx => ?_, fun b o e n hb hx => ?_, I.base.free, fun b o e hx => ?_, I.base.tups, I.base.frzs, I.base.tbls⟩, ⟨_, hn', fun j y v' e1 e2 e3 => ?_⟩, fun y c e => ?_, I.free, I.freeC, fun p hp => ?_, tracked ⟨oL, hoL, I.free⟩ hs, by simpa using I.len⟩ ⟨_, hs, .inl rfl⟩
  ·exact (hs.2 b (Nat.ne_of_lt (Nat.lt_of_lt_of_le (Heap.lt_size e) I.ok.above))).trans (I.base.keep b o e n hb hx)
  ·obtain ⟨sl, e1⟩ := I.base.slot b o e n hb hx
   exact ⟨sl, (hs.2 b (Nat.ne_of_lt (Nat.lt_of_lt_of_le (Heap.lt_size e) I.ok.above))).trans e1⟩
  ·obtain ⟨o', e1⟩ := I.base.there b o e hx
   exact ⟨o', (hs.2 b (Nat.ne_of_lt (Nat.lt_of_lt_of_le (Heap.lt_size e) I.ok.above))).trans e1⟩
  ·by_cases hj : j = i
   ·subst hj
    rw [hi] at e1; cases e1
    rw [List.getElem?_set_self hiσ] at e2
    cases e2
    exact ⟨u, r, .inl ⟨hk, by simp⟩⟩
   ·rw [List.getElem?_set_ne (Ne.symm hj)] at e2
    obtain ⟨u', r', q⟩ := hl j y v' e1 e2 e3
    refine ⟨u', r', ?_⟩
    rcases q with ⟨k, e⟩ | ⟨k, c, e, z⟩
    ·refine .inl ⟨k, ?_⟩
     have : y ≠ x := fun e => hj (nodup_ix hN e1 (e ▸ hi))
     simp [this, e]
    ·exact .inr ⟨k, c, e, z.sameBut hs (cne y c e)⟩
  ·obtain ⟨w', z⟩ := I.cell y c e
   exact ⟨w', z.sameBut hs (cne y c e)⟩
  ·obtain ⟨e, n, ne, nf, d⟩ := I.pin p hp
   exact ⟨(hs.2 p.1 ne).trans e, n, ne, nf, d⟩
 ·have hfn : X.fn x = true := by
   rcases hf with z | z
   ·exact z
   ·rw [z] at hk; cases hk
  obtain ⟨c, hc⟩ := I.ok.has x (.inl hk)
  obtain ⟨w', z⟩ := I.cell x c hc
  refine wpAny_storeName_cell I.ok.kind hk hc z (fun h' hc' hs => ?_)
  obtain ⟨oc, hoc, hocd⟩ := id z
  refine h { s with heap := h' } ⟨I.ok, I.os, I.bare, ⟨fun b o e n hb hx => ?_, fun b o e n hb hx => ?_, I.base.free, fun b o e hx => ?_, I.base.tups, I.base.frzs, I.base.tbls⟩, ⟨m, hn.sameBut hs (Ne.symm (cne x c hc)), fun j y v' e1 e2 e3 => ?_⟩, fun y c' e => ?_, I.free, I.freeC, fun p hp => ?_, tracked ⟨oc, hoc, I.freeC x c hc⟩ hs, by simpa using I.len⟩ ⟨c, hs, .inr hc⟩
  ·exact (hs.2 b (Nat.ne_of_lt (Nat.lt_of_lt_of_le (Heap.lt_size e) (I.ok.cab x c hfn hc)))).trans (I.base.keep b o e n hb hx)
  ·obtain ⟨sl, e1⟩ := I.base.slot b o e n hb hx
   exact ⟨sl, (hs.2 b (Nat.ne_of_lt (Nat.lt_of_lt_of_le (Heap.lt_size e) (I.ok.cab x c hfn hc)))).trans e1⟩
  ·obtain ⟨o', e1⟩ := I.base.there b o e hx
   exact ⟨o', (hs.2 b (Nat.ne_of_lt (Nat.lt_of_lt_of_le (Heap.lt_size e) (I.ok.cab x c hfn hc)))).trans e1⟩
  ·by_cases hj : j = i
   ·subst hj
    rw [hi] at e1; cases e1
    rw [List.getElem?_set_self hiσ] at e2
    cases e2
    exact ⟨u, r, .inr ⟨.inl hk, c, hc, hc'⟩⟩
   ·rw [List.getElem?_set_ne (Ne.symm hj)] at e2
    obtain ⟨u', r', q⟩ := hl j y v' e1 e2 e3
    refine ⟨u', r', ?_⟩
    rcases q with q | ⟨k, c', e, z'⟩
    ·exact .inl q
    ·refine .inr ⟨k, c', e, z'.sameBut hs ?_⟩
     rintro rfl
     exact hj (nodup_ix hN e1 (I.ok.inj _ _ _ e hc ▸ hi))
  ·by_cases hcc : c' = c
   ·subst hcc; exact ⟨_, hc'⟩
   ·obtain ⟨w2, z2⟩ := I.cell y c' e
    exact ⟨w2, z2.sameBut hs hcc⟩
  ·obtain ⟨e, n, ne, nf, d⟩ := I.pin p hp
   refine ⟨(hs.2 p.1 ?_).trans e, n, ne, nf, d⟩
   intro q
   rw [q, hoc] at e
   have q' : oc = p.2 := Option.some.inj e
   exact d w' (by rw [← q']; exact hocd)
theorem store_ok {M : Model} {A : Around} {E : Value → Shared → Prop} {i : Nat} {x : Str} {v : V} {u : Value} {Q : Unit → Shared → Prop} (I : Inv X pins σ H s) (hN : X.N.Nodup) (hi : X.N[i]? = some x) (hx : Loc X.env.scope x) (r : RelV v u)
  (h : ∀ s', Inv X pins (σ.set i (some v)) H s' → Q () s') (hf : autoParam (X.fn x = true ∨ X.env.scope.names.lookup x = some .local) Ax0._auto_1) : wpAny M A (storeName X.env x u) Q E s :=
 store_ok2 I hN hi hx r (fun s' I' _ => h s' I') hf
theorem Inv.call' {s' : Shared} {ch : List Addr} (I : Inv X pins σ H s) (ho : s'.os = s.os) (u : Un (frs X.stack) ch H H' s.heap s'.heap) (hok : HOk X.prog X.w H' s'.heap) (hg : AllBare s'.gens)
  (hch : ∀ b ∈ ch, (b ∈ X.ex ∨ X.s₀.heap.objs.size ≤ b) ∧ b ≠ X.env.locals ∧ (∀ x c, X.env.cells.lookup x = some c → c ≠ b) ∧ ∀ p ∈ X.pn ++ pins, p.1 ≠ b) : Inv X pins σ H' s' := by
 obtain ⟨h', g', d', t', o'⟩ := s'
 have e : o' = s.os := ho
 subst e
 exact I.call (g' := g') (t' := t') (d' := d') u hok hg hch
end
noncomputable abbrev XK := Value → Option Addr → Hp → Prop
noncomputable abbrev St := List (Option V)
noncomputable abbrev VK := V → Hp → Prop
noncomputable abbrev TE := St → Hp → VK → Prop
noncomputable abbrev TT := St → Hp → (Bool → Hp → Prop) → Prop
noncomputable abbrev TA := St → Hp → (List V → Hp → Prop) → Prop
structure Ends where
 nx : St → Hp → Prop
 rt : VK
 bk : St → Hp → Prop := fun _ _ => False
 ct : St → Hp → Prop := fun _ _ => False
noncomputable abbrev TS := Ends → St → Hp → Prop
noncomputable def EP (X : Cx) (pins : List (Addr × Obj)) (σ : St) (Q : VK) (u : Value) (s' : Shared) : Prop := ∃ v H', Inv X pins σ H' s' ∧ RelV v u ∧ Q v H'
noncomputable def TP (X : Cx) (pins : List (Addr × Obj)) (σ : St) (Q : Bool → Hp → Prop) (b : Bool) (s' : Shared) : Prop := ∃ H', Inv X pins σ H' s' ∧ Q b H'
noncomputable def AP (X : Cx) (pins : List (Addr × Obj)) (σ : St) (Q : List V → Hp → Prop) (us : List Value) (s' : Shared) : Prop := ∃ vs H', Inv X pins σ H' s' ∧ Vals vs us ∧ Q vs H'
noncomputable def SP (X : Cx) (pins : List (Addr × Obj)) (D : Ends) (f : Flow) (s' : Shared) : Prop :=
 match f with
 | .next => ∃ σ' H', Inv X pins σ' H' s' ∧ D.nx σ' H'
 | .brk => ∃ σ' H', Inv X pins σ' H' s' ∧ D.bk σ' H'
 | .cont => ∃ σ' H', Inv X pins σ' H' s' ∧ D.ct σ' H'
 | .ret u => ∃ v σ' H', Inv X pins σ' H' s' ∧ RelV v u ∧ D.rt v H'
noncomputable def PE (X : Cx) (e : Expr) (t : TE) : Prop :=
 ∀ (pins : List (Addr × Obj)) (s : Shared) (σ : St) (H : Hp) (Q : VK), Inv X pins σ H s → t σ H Q → wpAny (model X.prog X.w) X.A (eval e X.env) (EP X pins σ Q) X.xe s
noncomputable def PT (X : Cx) (e : Expr) (t : TT) : Prop :=
 ∀ (pins : List (Addr × Obj)) (s : Shared) (σ : St) (H : Hp) (Q : Bool → Hp → Prop), Inv X pins σ H s → t σ H Q → wpAny (model X.prog X.w) X.A (isTrue e X.env (eval e X.env)) (TP X pins σ Q) X.xe s
noncomputable def PW (X : Cx) (e : Expr) (t : TT) : Prop :=
 ∀ (whole : Sem Value) (pins : List (Addr × Obj)) (s : Shared) (σ : St) (H : Hp) (Q : Bool → Hp → Prop), Inv X pins σ H s → t σ H Q → wpAny (model X.prog X.w) X.A (isTrue e X.env whole) (TP X pins σ Q) X.xe s
theorem PW.pt {X : Cx} {e : Expr} {t : TT} (h : PW X e t) : PT X e t := h _
noncomputable def PA (X : Cx) (es : List Expr) (t : TA) : Prop :=
 ∀ (pos : Pos) (pins : List (Addr × Obj)) (s : Shared) (σ : St) (H : Hp) (Q : List V → Hp → Prop), Inv X pins σ H s → t σ H Q → wpAny (model X.prog X.w) X.A (spliced (backTo pos (starEach es X.env))) (AP X pins σ Q) X.xe s
noncomputable def PS (X : Cx) (st : Stmt) (t : TS) : Prop :=
 ∀ (pins : List (Addr × Obj)) (s : Shared) (σ : St) (H : Hp) (D : Ends), Inv X pins σ H s → t D σ H → wpAny (model X.prog X.w) X.A (exec st X.env) (SP X pins D) X.xe s
noncomputable def PSs (X : Cx) (st : List Stmt) (t : TS) : Prop :=
 ∀ (pins : List (Addr × Obj)) (s : Shared) (σ : St) (H : Hp) (D : Ends), Inv X pins σ H s → t D σ H → wpAny (model X.prog X.w) X.A (execs st X.env) (SP X pins D) X.xe s
theorem thn {α : Type} {t : Sem α} {Q Q' : α → Shared → Prop} {M : Model} {A : Around} {E : Value → Shared → Prop} {s : Shared} (h : wpAny M A t Q E s) (hQ : ∀ a s, Q a s → Q' a s) : wpAny M A t Q' E s := wpAny_mono h hQ fun _ _ x => x
end L2
namespace L2
open PySem PySem.Spec PyProof.Rows
section
variable {X : Cx}
theorem bin {a b : Expr} {ta tb : TE} (ha : PE X a ta) (hb : PE X b tb) {pins : List (Addr × Obj)} {s : Shared} {σ : St} {H : Hp} {R : V → V → Hp → Prop} (I : Inv X pins σ H s) (h : ta σ H fun x H1 => tb σ H1 fun y H2 => R x y H2)
  {α : Type} {Q : α → Shared → Prop} {f : Value → Value → Sem α}
  (hf : ∀ v u s2 x y H2, Inv X pins σ H2 s2 → RelV x v → RelV y u → R x y H2 → wpAny (model X.prog X.w) X.A (f v u) Q X.xe s2) :
  wpAny (model X.prog X.w) X.A (eval a X.env) (fun v s₁ => wpAny (model X.prog X.w) X.A (eval b X.env) (fun u s₂ => wpAny (model X.prog X.w) X.A (f v u) Q X.xe s₂) X.xe s₁) X.xe s := by
 refine thn (ha pins s σ H _ I h) fun v s1 ⟨x, H1, I1, r1, q1⟩ => ?_
 refine thn (hb pins s1 σ H1 _ I1 q1) fun u s2 ⟨y, H2, I2, r2, q2⟩ => ?_
 exact hf v u s2 x y H2 I2 r1 r2 q2
noncomputable def tVar (i : Nat) : TE := fun σ H Q => ∃ v, σ[i]? = some (some v) ∧ Q v H
noncomputable def tC (v : V) : TE := fun _ H Q => Q v H
theorem pe_var {i : Nat} {x : Str} {pos : Pos} (hN : X.N[i]? = some x) (hv : Vis X.env.scope x) (hd : autoParam ((x == ("__debug__" : Str)) = false) Ax1._auto_1) (hcd : autoParam ((x == ("__classdict__" : Str)) = false) Ax1._auto_1) : PE X (.Name x pos) (tVar i) := by
 intro pins s σ H Q I h
 obtain ⟨v, e, h⟩ := h
 obtain ⟨m, hn, hl⟩ := I.loc
 obtain ⟨u, r, l⟩ := hl i x v hN e hv
 have fin : EP X pins σ Q u s := ⟨v, H, I, r, h⟩
 rcases l with ⟨hk, hm⟩ | ⟨hk, c, hc, hcell⟩
 ·exact wpAny_Name (wpAny_loadName_local I.ok.kind hk hn hm fin) hd
 ·rcases hk with hk | hk
  ·exact wpAny_Name (wpAny_loadName_cell I.ok.kind hk hc hcell fin) hd
  ·exact wpAny_Name (wpAny_loadName_free I.ok.kind hk hc hcell fin hcd) hd
theorem pe_int {i j pos} : PE X (.Constant (.int i) j pos) (tC (.int i)) := fun _ _ _ H _ I h => wpAny_Constant_int ⟨.int i, H, I.tok _, ⟨_, rfl⟩, h⟩
theorem pe_bl {b j pos} : PE X (.Constant (.bool b) j pos) (tC (.bl b)) := fun _ _ _ H _ I h => Constant_bool ⟨.bl b, H, I, rfl, h⟩
noncomputable def Gl (X : Cx) (x : Str) : Prop := X.env.kindOf x = some .globalImplicit
theorem ld_glob {E : Value → Shared → Prop} {pins : List (Addr × Obj)} {s : Shared} {σ : St} {H : Hp} {x : Str} {u : Value} {pos : Pos} {Q : Value → Shared → Prop} (I : Inv X pins σ H s) (hg : Gl X x) (hm : X.mg x = some u) (h : Q u s)
  (hd : autoParam ((x == ("__debug__" : Str)) = false) Ax1._auto_1) : wpAny (model X.prog X.w) X.A (eval (.Name x pos) X.env) Q E s :=
 Calls.Name_function_global I.ok.kind hg (Calls.loadGlobal_global (by rw [I.ok.glob]; exact I.mod.glob.keeps I.bk) hm h) hd
theorem ld_blt {E : Value → Shared → Prop} {pins : List (Addr × Obj)} {s : Shared} {σ : St} {H : Hp} {x : Str} {u : Value} {pos : Pos} {Q : Value → Shared → Prop} (I : Inv X pins σ H s) (hg : Gl X x) (hm : X.mg x = none) (hv : bootBuiltins x = some u) (h : Q u s)
  (hn : autoParam (x ≠ "__name__") Ax1._auto_1) (hd : autoParam ((x == ("__debug__" : Str)) = false) Ax1._auto_1) : wpAny (model X.prog X.w) X.A (eval (.Name x pos) X.env) Q E s := by
 obtain ⟨mb, h1, h2⟩ := I.mod.blt
 exact Calls.Name_function_global I.ok.kind hg (Calls.loadGlobal_builtin (by rw [I.ok.glob]; exact I.mod.glob.keeps I.bk) hm (by rw [I.ok.blt]; exact h1.keeps I.bk) ((h2 x hn).trans hv) h) hd
theorem pe_bltn {x : Str} {v : V} {u : Value} {pos : Pos} (hg : Gl X x) (hm : X.mg x = none) (hv : bootBuiltins x = some u) (r : RelV v u) (hn : autoParam (x ≠ "__name__") Ax1._auto_1) (hd : autoParam ((x == ("__debug__" : Str)) = false) Ax1._auto_1) : PE X (.Name x pos) (tC v) :=
 fun _ _ _ H _ I h => ld_blt I hg hm hv ⟨v, H, I, r, h⟩ hn hd
variable {a b : Expr} {ta tb : TE} {pos : Pos}
noncomputable def PC (X : Cx) (op : CmpOp) (a b : Expr) (t : TE) : Prop :=
 ∀ (pins : List (Addr × Obj)) (s : Shared) (σ : St) (H : Hp) (Q : VK), Inv X pins σ H s → t σ H Q →
  wpAny (model X.prog X.w) X.A (eval a X.env) (fun v s₁ => wpAny (model X.prog X.w) X.A (eval b X.env) (fun u s₂ => wpAny (model X.prog X.w) X.A (compareOp op v u) (EP X pins σ Q) X.xe s₂) X.xe s₁) X.xe s
theorem nobehind (b : Expr) {op : CmpOp} (h : op ≠ .In) (h2 : op ≠ .NotIn) : behindInMarks op b = false := by
 have e1 : (op == CmpOp.In) = false := by cases op <;> first | rfl | exact absurd rfl h
 have e2 : (op == CmpOp.NotIn) = false := by cases op <;> first | rfl | exact absurd rfl h2
 cases b <;> simp [behindInMarks, e1, e2]
noncomputable def tB (t : TE) : TT := fun σ H Q => t σ H fun x H1 => ∃ c, x = .bl c ∧ Q c H1
theorem pt_cmp {op : CmpOp} {t : TE} (h : PC X op a b t) (h1 : autoParam (behindInMarks op b = false) Ax2._auto_1) : PT X (.Compare a [op] [b] pos) (tB t) := by
 intro pins s σ H Q I hw
 refine wpAny_isTrue_Compare1 (thn (h pins s σ H _ I hw) fun v s1 h1 => thn h1 fun u s2 h2 => thn h2 fun c s3 ⟨x, H1, I1, r1, q1⟩ => ?_) h1
 obtain ⟨d, rfl, q⟩ := q1
 cases r1
 exact wpAny_truthy_bool ⟨H1, I1, q⟩
theorem pt_val {e : Expr} {t : TE} (h : PE X e t) (he : autoParam (∀ whole, isTrue e X.env whole = (do let v ← whole; standAt e.pos; holding [v] (truthy v))) Ax3._auto_1) : PT X e (tB t) := by
 intro pins s σ H Q I hw
 refine isTrue_plain (thn (h pins s σ H _ I hw) fun v s1 ⟨x, H1, I1, r1, q1⟩ => ?_) (he _)
 obtain ⟨d, rfl, q⟩ := q1
 cases r1
 exact wpAny_truthy_bool ⟨H1, I1, q⟩
variable {tA tB' : TT} {rest : List Expr}
noncomputable def tAnd (t u : TT) : TT := fun σ H Q => t σ H fun c H1 => if c = true then u σ H1 Q else Q false H1
noncomputable def tOr (t u : TT) : TT := fun σ H Q => t σ H fun c H1 => if c = true then Q true H1 else u σ H1 Q
noncomputable def tNot (t : TT) : TT := fun σ H Q => t σ H fun c H1 => Q (!c) H1
theorem pw_and1 (ha : PT X a tA) : PW X (.BoolOp .And [a] pos) tA := by
 intro wh pins s σ H Q I h
 refine isTrue_and (thn (ha pins s σ H Q I h) fun c s1 e => ?_)
 cases c with
 | true => exact isTrue_and_nil e
 | false => exact e
theorem pw_or1 (ha : PT X a tA) : PW X (.BoolOp .Or [a] pos) tA := by
 intro wh pins s σ H Q I h
 refine isTrue_or (thn (ha pins s σ H Q I h) fun c s1 e => ?_)
 cases c with
 | false => exact isTrue_or_nil e
 | true => exact e
theorem pw_and (ha : PT X a tA) (hb : PW X (.BoolOp .And (b :: rest) pos) tB') : PW X (.BoolOp .And (a :: b :: rest) pos) (tAnd tA tB') := by
 intro wh pins s σ H Q I h
 refine isTrue_and (thn (ha pins s σ H _ I h) fun c s1 ⟨H1, I1, q1⟩ => ?_)
 cases c with
 | true => exact hb wh pins s1 σ H1 Q I1 q1
 | false => exact ⟨H1, I1, q1⟩
theorem pw_or (ha : PT X a tA) (hb : PW X (.BoolOp .Or (b :: rest) pos) tB') : PW X (.BoolOp .Or (a :: b :: rest) pos) (tOr tA tB') := by
 intro wh pins s σ H Q I h
 refine isTrue_or (thn (ha pins s σ H _ I h) fun c s1 ⟨H1, I1, q1⟩ => ?_)
 cases c with
 | true => exact ⟨H1, I1, q1⟩
 | false => exact hb wh pins s1 σ H1 Q I1 q1
theorem pt_not (ha : PT X a tA) : PT X (.UnaryOp .Not a pos) (tNot tA) := by
 intro pins s σ H Q I h
 exact isTrue_not (ha pins s σ H (fun c H1 => Q (!c) H1) I h)
end
end L2
namespace L2
open PySem PySem.Spec PyProof.Rows
noncomputable def SqL (K : PySem.W.Frag) (H : Hp) (a : Addr) (xs : List V) : Prop :=
 Rd H a (.lst xs) ∨
  ∃ (o : Obj) (its : Array Value) (n : Nat), K.lookup a = some o ∧ o.cls = .type "list" ∧ o.dict = none ∧ o.data = .seq its n ∧ its.size ≤ sizeLine ∧ Vals xs its.toList
noncomputable def SqT (K : PySem.W.Frag) (H : Hp) (a : Addr) (xs : List V) : Prop :=
 Rd H a (.tup xs) ∨
  ∃ (o : Obj) (its : Array Value) (n : Nat), K.lookup a = some o ∧ o.cls = .type "tuple" ∧ o.data = .seq its n ∧ its.size ≤ sizeLine ∧ Vals xs its.toList
noncomputable def absV : Value → Option V
 | .none => some .non
 | .bool b => some (.bl b)
 | .int i _ => some (.int i)
 | .str x _ => some (.str x)
 | .bytes b _ => some (.byt b)
 | .float b _ => some (.flt b)
 | .ref a => some (.ref a)
 | .type n => some (.ty n)
 | _ => none
theorem RelV.abs {x : V} {u : Value} (r : RelV x u) : absV u = some x := by
 cases x with
 | non => cases r; rfl
 | bl _ => cases r; rfl
 | int _ => obtain ⟨t, rfl⟩ := r; rfl
 | str _ => obtain ⟨t, rfl⟩ := r; rfl
 | byt _ => obtain ⟨t, rfl⟩ := r; rfl
 | flt _ => obtain ⟨t, rfl⟩ := r; rfl
 | ref _ => cases r; rfl
 | ty _ => cases r; rfl
theorem RelV.inj {x y : V} {u : Value} (r : RelV x u) (q : RelV y u) : x = y := Option.some.inj (r.abs.symm.trans q.abs)
theorem Vals.inj {xs ys : List V} {us : List Value} (h : Vals xs us) : Vals ys us → xs = ys := by
 induction h generalizing ys with
 | nil => intro h'; cases h'; rfl
 | cons r t ih =>
  intro h'
  cases h' with
  | cons r' t' => rw [r.inj r', ih t']
section
variable {X : Cx} {pins : List (Addr × Obj)} {σ : St} {H : Hp} {s : Shared} {a : Addr} {xs ys : List V}
theorem Inv.list (I : Inv X pins σ H s) (h : SqL X.K H a xs) : ∃ its : List Value, Vals xs its ∧ PlainL s.heap a its.toArray ∧ xs.length ≤ sizeLine := by
 rcases h with h | ⟨o, its, n, hk, hc, hd, hs, hz, r⟩
 ·obtain ⟨z, its, n, r, e⟩ := h.ok I.hok
  exact ⟨its, r, ⟨_, n, e, rfl, rfl, rfl⟩, z⟩
 ·refine ⟨its.toList, r, ⟨o, n, I.kIn a o hk, hc, hd, by simpa using hs⟩, ?_⟩
  have e := r.length
  simp only [Array.length_toList] at e
  omega
theorem Inv.tuple (I : Inv X pins σ H s) (h : SqT X.K H a xs) : ∃ its : List Value, Vals xs its ∧ IsTup s.heap a its.toArray ∧ xs.length ≤ sizeLine := by
 rcases h with h | ⟨o, its, n, hk, hc, hs, hz, r⟩
 ·obtain ⟨z, its, r, p⟩ := h.ok I.hok
  exact ⟨its, r, p, z⟩
 ·refine ⟨its.toList, r, ⟨o, I.kIn a o hk, hc, n, by simpa using hs⟩, ?_⟩
  have e := r.length
  simp only [Array.length_toList] at e
  omega
theorem Inv.list_inj (I : Inv X pins σ H s) (h : SqL X.K H a xs) (h' : SqL X.K H a ys) : xs = ys := by
 obtain ⟨its, r, ⟨o, n, e, _, _, d⟩, _⟩ := I.list h
 obtain ⟨its', r', ⟨o', n', e', _, _, d'⟩, _⟩ := I.list h'
 rw [e] at e'; cases e'
 rw [d] at d'
 injection d' with d1 _
 have : its = its' := by simpa using congrArg Array.toList d1
 subst this
 exact r.inj r'
end
noncomputable abbrev Cx.wish (X : Cx) (E : Value → Shared → Prop) : Cx := { X with xe := E }
noncomputable abbrev Cx.nox (X : Cx) : Cx := X.wish fun _ _ => False
theorem Cx.Ok.wish {X : Cx} (ok : X.Ok) (E : Value → Shared → Prop) : (X.wish E).Ok :=
 ⟨ok.mod, ok.kind, ok.glob, ok.blt, ok.above, ok.inj, ok.has, ok.cab, ok.hd, ok.frames, ok.stk, ok.exf, ok.bs, ok.bsz, ok.noex, ok.exfs, ok.funs, ok.frf⟩
theorem Cx.Ok.unwish {X : Cx} {E : Value → Shared → Prop} (ok : (X.wish E).Ok) : X.Ok :=
 ⟨ok.mod, ok.kind, ok.glob, ok.blt, ok.above, ok.inj, ok.has, ok.cab, ok.hd, ok.frames, ok.stk, ok.exf, ok.bs, ok.bsz, ok.noex, ok.exfs, ok.funs, ok.frf⟩
section
variable {X : Cx} {pins : List (Addr × Obj)} {σ : St} {H : Hp} {s : Shared} {E : Value → Shared → Prop}
theorem Inv.wish (I : Inv X pins σ H s) (E : Value → Shared → Prop) : Inv (X.wish E) pins σ H s := ⟨I.ok.wish E, I.os, I.bare, I.base, I.loc, I.cell, I.free, I.freeC, I.pin, I.hok, I.len⟩
theorem Inv.unwish (I : Inv (X.wish E) pins σ H s) : Inv X pins σ H s := ⟨I.ok.unwish, I.os, I.bare, I.base, I.loc, I.cell, I.free, I.freeC, I.pin, I.hok, I.len⟩
theorem SP.unwish {D : Ends} {f : Flow} {s' : Shared} (h : SP (X.wish E) pins D f s') : SP X pins D f s' := by
 cases f with
 | next => obtain ⟨σ', H', I, q⟩ := h; exact ⟨σ', H', I.unwish, q⟩
 | brk => obtain ⟨σ', H', I, q⟩ := h; exact ⟨σ', H', I.unwish, q⟩
 | cont => obtain ⟨σ', H', I, q⟩ := h; exact ⟨σ', H', I.unwish, q⟩
 | ret u => obtain ⟨v, σ', H', I, r, q⟩ := h; exact ⟨v, σ', H', I.unwish, r, q⟩
theorem PSs.nox {st : List Stmt} {t : TS} (h : PSs X.nox st t) : PSs X st t := fun pins s σ H D I hw =>
 wpAny_mono (h pins s σ H D (I.wish _) hw) (fun _ _ q => q.unwish) fun _ _ z => False.elim z
end
section
variable {X : Cx} {st : Stmt} {rest : List Stmt} {t u : TS} {e : Expr} {te : TE} {pos : Pos}
noncomputable def tNext : TS := fun D σ H => D.nx σ H
noncomputable def tSeq (t u : TS) : TS := fun D σ H => t { D with nx := u D } σ H
theorem pss_nil : PSs X [] tNext := fun _ _ σ H _ I h => wpAny_execs_nil ⟨σ, H, I, h⟩
theorem pss_cons (h1 : PS X st t) (h2 : PSs X rest u) : PSs X (st :: rest) (tSeq t u) := by
 intro pins s σ H D I h
 refine wpAny_execs_cons (thn (h1 pins s σ H { D with nx := u D } I h) fun f s1 q => ?_)
 cases f with
 | next =>
  obtain ⟨σ', H', I', q⟩ := q
  exact h2 pins s1 σ' H' D I' q
 | ret v => exact q
 | brk => exact q
 | cont => exact q
theorem pss_one (h1 : PS X st t) : PSs X [st] t := by
 intro pins s σ H D I h
 refine wpAny_execs_cons (thn (h1 pins s σ H D I h) fun f s1 q => ?_)
 cases f with
 | next => exact wpAny_execs_nil q
 | ret v => exact q
 | brk => exact q
 | cont => exact q
theorem Inv.quiet {pins : List (Addr × Obj)} {σ : St} {H : Hp} {s : Shared} (I : Inv X pins σ H s) : interactive X.env = false := by simp [interactive, I.ok.kind]
noncomputable def tDrop (te : TE) : TS := fun D σ H => te σ H fun _ H1 => D.nx σ H1
theorem ps_expr (he : PE X e te) (hs : autoParam (swapsWith e none pos.line X.env = pure false) Ax4._auto_1) : PS X (.Expr e pos) (tDrop te) := by
 intro pins s σ H D I h
 exact wpAny_Expr_any (thn (he pins s σ H _ I h) fun v s1 ⟨x, H1, I1, r1, q1⟩ => ⟨σ, H1, I1, q1⟩) I.quiet hs
noncomputable def tRet (te : TE) : TS := fun D σ H => te σ H D.rt
theorem ps_ret (he : PE X e te) : PS X (.Return (some e) pos) (tRet te) := by
 intro pins s σ H D I h
 exact wpAny_Return_some (thn (he pins s σ H _ I h) fun v s1 ⟨x, H1, I1, r1, q1⟩ => ⟨x, σ, H1, I1, r1, q1⟩)
noncomputable def tIfS (c : TT) (t u : TS) : TS := fun D σ H => c σ H fun b H1 => if b = true then t D σ H1 else u D σ H1
theorem ps_if {c : Expr} {a b : List Stmt} {tc : TT} (hc : PT X c tc) (ha : PSs X a t) (hb : PSs X b u) : PS X (.If c a b pos) (tIfS tc t u) := by
 intro pins s σ H D I h
 refine wpAny_If (thn (hc pins s σ H _ I h) fun d s1 ⟨H1, I1, q1⟩ => ?_)
 cases d with
 | true => exact ha pins s1 σ H1 D I1 q1
 | false => exact hb pins s1 σ H1 D I1 q1
noncomputable def tNever : TS := fun _ _ _ => False
theorem pss_never {sts : List Stmt} : PSs X sts tNever := fun _ _ _ _ _ _ h => h.elim
end
noncomputable abbrev TG := V → St → Hp → (St → Hp → Prop) → Prop
noncomputable abbrev TGs := List V → St → Hp → (St → Hp → Prop) → Prop
noncomputable def PG (X : Cx) (target : Expr) (t : TG) : Prop :=
 ∀ (pins : List (Addr × Obj)) (s : Shared) (σ : St) (H : Hp) (v : V) (u : Value) (Q : St → Hp → Prop), Inv X pins σ H s → RelV v u → t v σ H Q →
  wpAny (model X.prog X.w) X.A (assign target X.env u) (fun _ s' => ∃ σ' H', Inv X pins σ' H' s' ∧ Q σ' H') X.xe s
noncomputable def PGs (X : Cx) (ts : List Expr) (t : TGs) : Prop :=
 ∀ (pins : List (Addr × Obj)) (s : Shared) (σ : St) (H : Hp) (vs : List V) (us : List Value) (Q : St → Hp → Prop), Inv X pins σ H s → Vals vs us → t vs σ H Q →
  wpAny (model X.prog X.w) X.A (assignInOrder ((assignEach ts X.env).map (·.2)) us) (fun _ s' => ∃ σ' H', Inv X pins σ' H' s' ∧ Q σ' H') X.xe s
noncomputable abbrev TSet := V → V → V → Hp → (Hp → Prop) → Prop
section
variable {X : Cx} {pos : Pos}
noncomputable def gName (i : Nat) : TG := fun v σ H Q => Q (σ.set i (some v)) H
theorem pg_name {i : Nat} {x : Str} (hN : X.N.Nodup) (hi : X.N[i]? = some x) (hx : Loc X.env.scope x) (hf : autoParam (X.fn x = true ∨ X.env.scope.names.lookup x = some .local) Ax0._auto_1) : PG X (.Name x pos) (gName i) := by
 intro pins s σ H v u Q I r h
 exact wpAny_assign_Name (store_ok I hN hi hx r (fun s' I' => ⟨_, H, I', h⟩) hf)
noncomputable def gNil : TGs := fun vs σ H Q => vs = [] ∧ Q σ H
noncomputable def gCons (t : TG) (u : TGs) : TGs := fun vs σ H Q => ∃ v r, vs = v :: r ∧ t v σ H fun σ' H' => u r σ' H' Q
theorem pgs_nil : PGs X [] gNil := by
 intro pins s σ H vs us Q I r h
 obtain ⟨e, h⟩ := h
 subst e
 cases r
 exact assignInOrder_nil ⟨σ, H, I, h⟩
theorem pgs_cons {e : Expr} {es : List Expr} {t : TG} {u : TGs} (h1 : PG X e t) (h2 : PGs X es u)
  (hs : autoParam ((assignEach (e :: es) X.env).map (·.2) = assign e X.env :: (assignEach es X.env).map (·.2)) Ax4._auto_1) : PGs X (e :: es) (gCons t u) := by
 intro pins s σ H vs us Q I r h
 obtain ⟨v, vr, e1, h⟩ := h
 subst e1
 cases r with
 | cons r rr =>
  rw [hs]
  refine assignInOrder_cons (thn (h1 pins s σ H _ _ _ I r h) fun _ s1 ⟨σ1, H1, I1, q1⟩ => ?_)
  exact h2 pins s1 σ1 H1 _ _ Q I1 rr q1
noncomputable def gTup (K : PySem.W.Frag) (n : Nat) (t : TGs) : TG := fun v σ H Q => ∃ a xs, v = .ref a ∧ SqT K H a xs ∧ xs.length = n ∧ t xs σ H Q
theorem pg_tup {es : List Expr} {k : Nat} {t : TGs} {n : Nat} (hc : X.calm = true) (h : PGs X es t)
  (hn : autoParam ((assignEach es X.env).length = n) Ax4._auto_1) (hst : autoParam ((assignEach es X.env).findIdx? (·.1) = none) Ax4._auto_1) : PG X (.Tuple es k pos) (gTup X.K n t) := by
 intro pins s σ H v u Q I r hw
 obtain ⟨a, xs, e1, hq, hl, hw⟩ := hw
 subst e1
 cases r
 obtain ⟨its, rv, ht, hz⟩ := I.tuple hq
 refine assign_Tuple_tuple (I.ok.hd hc) ht (by simp [hn, ← hl, rv.length]) hst fun h' hx => ?_
 have I1 : Inv X pins σ H { s with heap := h' } := I.kept (t' := s.toks) fun b o e => hx b o (Nat.ne_of_lt (Heap.lt_size e)) e
 exact h pins _ σ H xs _ Q I1 (by simpa using rv) hw
noncomputable def gSub (to ti : TE) (t : TSet) : TG := fun v σ H Q => to σ H fun o H1 => ti σ H1 fun i H2 => t o i v H2 fun H3 => Q σ H3
noncomputable def tAsg (te : TE) (g : TG) : TS := fun D σ H => te σ H fun x H1 => g x σ H1 D.nx
theorem ps_set {i : Nat} {x : Str} {e : Expr} {te : TE} {pos' : Pos} (hN : X.N.Nodup) (hi : X.N[i]? = some x) (hx : Loc X.env.scope x) (he : PE X e te) (hs : autoParam (swapsWith e (some (.Name x pos')) pos.line X.env = pure false) Ax4._auto_1) (hf : autoParam (X.fn x = true ∨ X.env.scope.names.lookup x = some .local) Ax0._auto_1) :
  PS X (.Assign [.Name x pos'] e pos) (tAsg te (gName i)) := by
 intro pins s σ H D I h
 refine wpAny_Assign_Name (thn (he pins s σ H _ I h) fun v s1 ⟨y, H1, I1, r1, q1⟩ => ?_) hs
 exact store_ok I1 hN hi hx r1 (fun s2 I2 => ⟨_, H1, I2, q1⟩) hf
end
section
variable {X : Cx} {pos : Pos}
end
structure It where
 go : Nat → Hp → Prop
 yld : Nat → Hp → V → Hp → Prop
 stop : Nat → Hp → Prop
noncomputable def FpOk (X : Cx) (pins : List (Addr × Obj)) (H : Hp) (b : Addr) : Prop :=
 H b = none ∧ b ≠ X.env.locals ∧ b ∉ X.fs ∧ (b ∈ X.ex ∨ X.s₀.heap.objs.size ≤ b) ∧ (∀ x c, X.env.cells.lookup x = some c → c ≠ b) ∧ ∀ p ∈ X.pn ++ pins, p.1 ≠ b
theorem Inv.fpOk {X : Cx} {pins : List (Addr × Obj)} {σ : St} {H H' : Hp} {s : Shared} {b : Addr} (I : Inv X pins σ H s) (hb : s.heap.objs.size ≤ b) (hn : H' b = none) : FpOk X pins H' b := by
 refine ⟨hn, Nat.ne_of_gt (Nat.lt_of_lt_of_le I.lt hb), I.nofs hb, .inr (Nat.le_trans I.sz hb), fun x c e z => ?_, fun p hp z => ?_⟩
 ·obtain ⟨v, q⟩ := I.cell x c e
  exact absurd (Nat.lt_of_lt_of_le q.lt (by rw [z]; exact hb)) (Nat.lt_irrefl _)
 ·exact absurd (Nat.lt_of_lt_of_le (Heap.lt_size (I.pin p hp).1) (by rw [z]; exact hb)) (Nat.lt_irrefl _)
structure Turn (P : Program) (w : World) (K : PySem.W.Frag) (tg : Expr) (J : It) (fp : List Addr) (it : Addr) (tn : Nat → Heap → Prop) : Prop where
 mem : it ∈ fp
 obj : ∀ i h, tn i h → ∀ b ∈ fp, ∃ o, h.get? b = some o ∧ ∀ v, o.data ≠ .cell v
 keep : ∀ i h h', tn i h → (∀ b ∈ fp, ∀ o, h.get? b = some o → h'.get? b = some o) → tn i h'
 item : ∀ (X : Cx), X.prog = P → X.w = w → X.K = K → X.calm = true → ∀ (i : Nat) (pins : List (Addr × Obj)) (s : Shared) (σ : St) (H : Hp) (E : Value → Shared → Prop), Inv X pins σ H s → (∀ b ∈ fp, FpOk X pins H b) → tn i s.heap → J.go i H →
  wpAny (model P w) X.A (pyNext (.ref it)) (fun r s1 => ∃ u, r = some u ∧
   wpAny (model P w) X.A (letOwnedTupleGo tg (.ref it) u) (fun _ s2 => ∃ x H', Inv X pins σ H' s2 ∧ RelV x u ∧ J.yld i H x H' ∧ tn (i + 1) s2.heap ∧ ∀ b ∈ fp, H' b = none) E s1) E s
 done : ∀ (X : Cx), X.prog = P → X.w = w → X.K = K → X.calm = true → ∀ (i : Nat) (pins : List (Addr × Obj)) (s : Shared) (σ : St) (H : Hp) (E : Value → Shared → Prop), Inv X pins σ H s → (∀ b ∈ fp, FpOk X pins H b) → tn i s.heap → J.stop i H →
  wpAny (model P w) X.A (pyNext (.ref it)) (fun r s1 => r = none ∧ Inv X pins σ H s1) E s
 self : ∀ (A : Around) (i : Nat) (s : Shared) (Q : Value → Shared → Prop) (E : Value → Shared → Prop), tn i s.heap → Q (.ref it) s → wpAny (model P w) A (pyIter (.ref it)) Q E s
noncomputable abbrev TI := St → Hp → (It → Hp → Prop) → Prop
noncomputable def PIE (X : Cx) (pins : List (Addr × Obj)) (σ : St) (tg : Expr) (R : It → Hp → Prop) (itv : Value) (s2 : Shared) : Prop :=
 ∃ (it : Addr) (fp : List Addr) (tn : Nat → Heap → Prop) (J : It) (H' : Hp), itv = .ref it ∧ Inv X pins σ H' s2 ∧ Turn X.prog X.w X.K tg J fp it tn ∧ tn 0 s2.heap ∧ (∀ b ∈ fp, FpOk X pins H' b) ∧ R J H'
noncomputable def PI (X : Cx) (tg iter : Expr) (wi : TI) : Prop :=
 ∀ (pins : List (Addr × Obj)) (s : Shared) (σ : St) (H : Hp) (R : It → Hp → Prop), Inv X pins σ H s → wi σ H R →
  wpAny (model X.prog X.w) X.A (eval iter X.env) (fun v s1 => wpAny (model X.prog X.w) X.A (pyIter v) (PIE X pins σ tg R) X.xe s1) X.xe s
theorem go_of {M : Model} {A : Around} {E : Value → Shared → Prop} {s : Shared} {tg : Expr} {it : Addr} {u : Value} {o : Obj} {n : String} {vs : Array Value} {Q : Unit → Shared → Prop} (ho : s.heap.get? it = some o) (hc : o.cls = .type n) (hd : o.data = .fields vs)
  (hn : ["enumerate", "zip", "dict_itemiterator", "dict_reverseitemiterator", "odict_iterator", "itertools.zip_longest", "itertools.pairwise"].contains n = false) (hQ : Q () s) : wpAny M A (letOwnedTupleGo tg (.ref it) u) Q E s := by
 unfold letOwnedTupleGo
 cases tg <;> first
  | exact wpAny_pure hQ
  | (cases u <;> first
    | exact wpAny_pure hQ
    | (refine wpAny_bind (wpAny_load ho ?_)
       rw [hc, hd]
       show wpAny M A (if (["enumerate", "zip", "dict_itemiterator", "dict_reverseitemiterator", "odict_iterator", "itertools.zip_longest", "itertools.pairwise"].contains n && vs[0]? == some (rawInt _)) = true then _ else _) Q E s
       rw [if_neg (by intro h; rw [hn, Bool.false_and] at h; cases h)]
       exact wpAny_pure hQ))
noncomputable def Itl (K : PySem.W.Frag) (a : Addr) : It :=
 ⟨fun i H => ∃ xs x, SqL K H a xs ∧ xs[i]? = some x, fun i H x H' => H' = H ∧ ∀ xs, SqL K H a xs → xs[i]? = some x, fun i H => ∃ xs, SqL K H a xs ∧ xs.length ≤ i⟩
noncomputable def Itr (lo : Int) (n : Nat) : It := ⟨fun i _ => i < n, fun i H x H' => H' = H ∧ x = .int (lo + i), fun i _ => n ≤ i⟩
theorem turn_list {P : Program} {w : World} {K : PySem.W.Frag} {tg : Expr} (a it : Addr) : Turn P w K tg (Itl K a) [it] it (fun i h => h.IsListIter it a i) where
 mem := by simp
 obj := fun i h st b hb => by
  have e : b = it := by simpa using hb
  subst e
  obtain ⟨o, e, c, d⟩ := st
  exact ⟨o, e, fun v z => by rw [d] at z; cases z⟩
 keep := fun i h h' st k => st.at fun o e => k it (by simp) o e
 item := by
  intro X hP hw hK hc i pins s σ H E I hf st hg
  subst hP hw hK
  obtain ⟨xs, x, hq, hx⟩ := hg
  obtain ⟨its, rv, p, hz⟩ := I.list hq
  obtain ⟨u, hu, ru⟩ := rv.get hx
  obtain ⟨f0, f1, f2, f3, f4, f5⟩ := hf it (by simp)
  refine wpAny_pyNext_list_item st p.isList (x := u) (by simpa using hu) fun h' st' sb => ?_
  have I1 : Inv X pins σ H { s with heap := h' } := I.turned (t' := s.toks) (fun b o hb e => (sb.2 b hb).trans e) f0 f1 f3 f4 f5
  obtain ⟨o, e, c, d⟩ := id st'
  exact ⟨u, rfl, go_of (s := { s with heap := h' }) e c d (by decide) ⟨x, H, I1, ru, ⟨rfl, fun ys hy => by rw [I.list_inj hy hq]; exact hx⟩, st', fun b hb => (hf b hb).1⟩⟩
 done := by
  intro X hP hw hK hc i pins s σ H E I hf st hg
  subst hP hw hK
  obtain ⟨xs, hq, hx⟩ := hg
  obtain ⟨its, rv, p, hz⟩ := I.list hq
  obtain ⟨f0, f1, f2, f3, f4, f5⟩ := hf it (by simp)
  have hl := rv.length
  exact wpAny_pyNext_list_end (I.ok.hd hc) st p.isList (by simp; omega) fun h' eb => ⟨rfl, I.turned (t' := s.toks) (fun b o hb e => eb b o hb e) f0 f1 f3 f4 f5⟩
 self := fun _ _ _ _ _ st h => wpAny_pyIter_listiter st h
theorem turn_range {P : Program} {w : World} {K : PySem.W.Frag} {tg : Expr} (it : Addr) (lo : Int) (n : Nat) : Turn P w K tg (Itr lo n) [it] it (fun i h => IsRangeIter h it (lo + (i : Nat) * 1) ((n : Int) - (i : Nat)) 1) where
 mem := by simp
 obj := fun i h st b hb => by
  have e : b = it := by simpa using hb
  subst e
  exact ⟨_, st, fun v z => by
   have z' : Data.fields _ = Data.cell v := z
   cases z'⟩
 keep := fun i h h' st k => k it (by simp) _ st
 item := by
  intro X hP hw hK hc i pins s σ H E I hf st hg
  subst hP hw hK
  obtain ⟨f0, f1, f2, f3, f4, f5⟩ := hf it (by simp)
  have W := Walks.range (prog := X.prog) (w := X.w) (I.ok.hd hc) it lo 1 n
  refine W.item i s _ _ hg st fun v h' tk hv st' kk => ?_
  obtain ⟨t, rfl⟩ := hv
  have I1 : Inv X pins σ H { s with heap := h', toks := tk } := I.turned (fun b o hb e => kk b o (by simpa using hb) e) f0 f1 f3 f4 f5
  refine ⟨_, rfl, go_of (s := { s with heap := h', toks := tk }) (n := "range_iterator") st' rfl rfl (by decide) ⟨.int (lo + i), H, I1, ⟨t, ?_⟩, ⟨rfl, rfl⟩, st', fun b hb => (hf b hb).1⟩⟩
  rw [Int.mul_one]
 done := by
  intro X hP hw hK hc i pins s σ H E I hf st hg
  subst hP hw hK
  obtain ⟨f0, f1, f2, f3, f4, f5⟩ := hf it (by simp)
  exact wpAny_pyNext_range_end (I.ok.hd hc) st (by have : n ≤ i := hg; omega) fun h' eb => ⟨rfl, I.turned (t' := s.toks) (fun b o hb e => eb b o hb e) f0 f1 f3 f4 f5⟩
 self := fun _ _ _ _ _ st h => wpAny_pyIter_rangeiter st h
end L2
namespace L2
open PySem PySem.Spec PyProof.Rows
section
variable {X : Cx} {tg : Expr}
noncomputable def iList (K : PySem.W.Frag) (tl : TE) : TI := fun σ H R => tl σ H fun x H1 => ∃ a, x = .ref a ∧ (∃ xs, SqL K H1 a xs) ∧ R (Itl K a) H1
theorem pi_list {l : Expr} {tl : TE} (hl : PE X l tl) : PI X tg l (iList X.K tl) := by
 intro pins s σ H R I h
 refine thn (hl pins s σ H _ I h) fun v s1 ⟨x, H1, I1, r1, q1⟩ => ?_
 obtain ⟨a, e, ⟨xs, hq⟩, q⟩ := q1
 subst e
 cases r1
 obtain ⟨its, rv, p, hz⟩ := I1.list hq
 refine wpAny_pyIter_list p.isList ?_
 refine ⟨s1.heap.objs.size, [s1.heap.objs.size], _, _, H1, rfl, I1.kept (t' := s1.toks) fun b o e => Heap.get?_push_of_some _ e, turn_list a _, ⟨_, Heap.get?_push_size _ rfl, rfl, rfl⟩, fun b hb => ?_, q⟩
 have e : b = s1.heap.objs.size := by simpa using hb
 subst e
 exact I1.fpOk (Nat.le_refl _) (I1.hok.fresh (Nat.le_refl _))
theorem range_it {pins : List (Addr × Obj)} {σ : St} {H : Hp} {s : Shared} {R : It → Hp → Prop} {E : Value → Shared → Prop} {lo hi : Int} {t u v : Tok} {tk : Nat} (I : Inv X pins σ H s) (h1 : -(2 ^ 62) ≤ lo) (h2 : lo < 2 ^ 62) (h3 : -(2 ^ 62) ≤ hi) (h4 : hi < 2 ^ 62)
  (q : R (Itr lo (hi - lo).toNat) H) : wpAny (model X.prog X.w) X.A (pyIter (.ref s.heap.objs.size)) (PIE X pins σ tg R) E { s with heap := s.heap.push { cls := .type "range", data := .fields #[.int lo t, .int hi u, .int 1 v] }, toks := tk } := by
 refine wpAny_pyIter_range (IsRange.new ..) (small_one h1 h2 h3 h4) ?_
 have I1 : Inv X pins σ H { s with heap := s.heap.push { cls := .type "range", data := .fields #[.int lo t, .int hi u, .int 1 v] }, toks := tk } := I.kept fun b o e => Heap.get?_push_of_some _ e
 refine ⟨(s.heap.push { cls := .type "range", data := .fields #[.int lo t, .int hi u, .int 1 v] }).objs.size, [(s.heap.push { cls := .type "range", data := .fields #[.int lo t, .int hi u, .int 1 v] }).objs.size], _, _, H, rfl,
  I1.kept (t' := tk) fun b o e => Heap.get?_push_of_some _ e, turn_range _ lo (hi - lo).toNat, ?_, fun b hb => ?_, q⟩
 ·have e1 : lo + ((0 : Nat) : Int) * 1 = lo := by simp
  have e2 : (((hi - lo).toNat : Nat) : Int) - ((0 : Nat) : Int) = Builtin.Range.rangeSize lo hi 1 := by rw [rangeSize_one]; split <;> omega
  show IsRangeIter _ _ (lo + ((0 : Nat) : Int) * 1) ((((hi - lo).toNat : Nat) : Int) - ((0 : Nat) : Int)) 1
  rw [e1, e2]
  exact Heap.get?_push_size _ rfl
 ·have e : b = (s.heap.push { cls := .type "range", data := .fields #[.int lo t, .int hi u, .int 1 v] }).objs.size := by simpa using hb
  subst e
  exact I1.fpOk (Nat.le_refl _) (I1.hok.fresh (Nat.le_refl _))
noncomputable def iRng1 (ta : TA) : TI := fun σ H R => ta σ H fun vs H1 => ∃ j : Int, vs = [.int j] ∧ -(2 ^ 62) ≤ j ∧ j < 2 ^ 62 ∧ R (Itr 0 j.toNat) H1
noncomputable def iRng2 (ta : TA) : TI := fun σ H R => ta σ H fun vs H1 => ∃ i j : Int, vs = [.int i, .int j] ∧ (-(2 ^ 62) ≤ i ∧ i < 2 ^ 62 ∧ -(2 ^ 62) ≤ j ∧ j < 2 ^ 62) ∧ R (Itr i (j - i).toNat) H1
theorem pi_range1 {a : Expr} {ta : TA} {p pos : Pos} (hg : Gl X "range") (hm : X.mg "range" = none) (ha : PA X [a] ta) (hs : autoParam (starEach [a] X.env = [(false, eval a X.env)]) Ax4._auto_1) : PI X tg (.Call (.Name "range" p) [a] [] pos) (iRng1 ta) := by
 intro pins s σ H R I h
 refine Call_ (ld_blt I hg hm boot_range (PyProof.Rows.callWith_type1 (thn (ha pos pins s σ H _ I h) fun us s1 ⟨vs, H1, I1, r1, q1⟩ => ?_) hs rfl))
 obtain ⟨j, e, q1, q2, q⟩ := q1
 subst e
 cases r1 with
 | cons r rr =>
  cases rr
  obtain ⟨t, rfl⟩ := r
  exact call_range_1 (range_it I1 (by omega) (by omega) q1 q2 (by simpa using q))
theorem pi_range2 {a b : Expr} {ta : TA} {p pos : Pos} (hg : Gl X "range") (hm : X.mg "range" = none) (ha : PA X [a, b] ta) (hs : autoParam (starEach [a, b] X.env = [(false, eval a X.env), (false, eval b X.env)]) Ax4._auto_1) (hs2 : autoParam (starEach [b] X.env = [(false, eval b X.env)]) Ax4._auto_1) :
  PI X tg (.Call (.Name "range" p) [a, b] [] pos) (iRng2 ta) := by
 intro pins s σ H R I h
 refine Call_ (ld_blt I hg hm boot_range (PyProof.Rows.callWith_type1 (thn (ha pos pins s σ H _ I h) fun us s1 ⟨vs, H1, I1, r1, q1⟩ => ?_) (by rw [hs, hs2]) (by rw [hs2]; rfl)))
 obtain ⟨i, j, e, ⟨q1, q2, q3, q4⟩, q⟩ := q1
 subst e
 cases r1 with
 | cons r rr =>
  cases rr with
  | cons r' rr =>
   cases rr
   obtain ⟨t, rfl⟩ := r
   obtain ⟨t', rfl⟩ := r'
   exact call_range_2 (range_it I1 q1 q2 q3 q4 q)
noncomputable def tFor (wi : TI) (g : TG) (tb : TS) : TS := fun D σ H => wi σ H fun J H1 => ∃ W : Nat → Nat → St → Hp → Prop, (∃ m, W 0 m σ H1) ∧ ∀ i m σ H, W i m σ H →
 (J.stop i H ∧ D.nx σ H) ∨ (J.go i H ∧ ∃ N : St → Hp → Prop, (∀ σ' H', N σ' H' → ∃ m', m' < m ∧ W (i + 1) m' σ' H') ∧ ∀ x H', J.yld i H x H' → g x σ H' fun σ2 H2 => tb { D with nx := N, ct := N, bk := D.nx } σ2 H2)
noncomputable def pinsAt (fp : List Addr) (h : Heap) : List (Addr × Obj) := fp.filterMap fun b => (h.get? b).map fun o => (b, o)
theorem mem_pinsAt {fp : List Addr} {h : Heap} {b : Addr} {o : Obj} (hb : b ∈ fp) (e : h.get? b = some o) : (b, o) ∈ pinsAt fp h := List.mem_filterMap.mpr ⟨b, hb, by rw [e]; rfl⟩
theorem of_pinsAt {fp : List Addr} {h : Heap} {p : Addr × Obj} (hp : p ∈ pinsAt fp h) : p.1 ∈ fp ∧ h.get? p.1 = some p.2 := by
 obtain ⟨b, hb, e⟩ := List.mem_filterMap.mp hp
 cases q : h.get? b with
 | none => rw [q] at e; cases e
 | some o =>
  rw [q] at e
  have e' : (b, o) = p := Option.some.inj e
  subst e'
  exact ⟨hb, q⟩
theorem Inv.pinned {pins : List (Addr × Obj)} {σ : St} {H : Hp} {s : Shared} {fp : List Addr} (I : Inv X pins σ H s) (hf : ∀ b ∈ fp, FpOk X pins H b) (ho : ∀ b ∈ fp, ∃ o, s.heap.get? b = some o ∧ ∀ v, o.data ≠ .cell v) : Inv X (pins ++ pinsAt fp s.heap) σ H s :=
 I.pins_of fun p hp => (List.mem_append.mp hp).elim (fun z => I.pin p (List.mem_append_right _ z)) fun z => by
  obtain ⟨hb, e⟩ := of_pinsAt z
  obtain ⟨f0, f1, f2, _⟩ := hf p.1 hb
  obtain ⟨o, e', d⟩ := ho p.1 hb
  rw [e] at e'; cases e'
  exact ⟨e, f0, f1, f2, d⟩
theorem Inv.unpinned {pins pl : List (Addr × Obj)} {σ : St} {H : Hp} {s : Shared} (I : Inv X (pins ++ pl) σ H s) : Inv X pins σ H s := I.pins_of fun p hp => I.pin p (List.mem_append_right _ (List.mem_append_left _ hp))
theorem ps_for {iter : Expr} {body : List Stmt} {wi : TI} {g : TG} {tb : TS} {pos : Pos} (hp : PassesOwn (model X.prog X.w) X.A X.env X.xe) (hc : X.calm = true) (hi : PI X tg iter wi) (hg : PG X tg g) (hb : PSs X body tb)
  (hs : autoParam (∀ x, foldedSetIterable iter X.env x = pure x) Ax3._auto_1) : PS X (.For tg iter body [] pos) (tFor wi g tb) := by
 intro pins s σ H D I h
 refine wpAny_For (thn (hi pins s σ H _ I h) fun v s1 h1 => thn h1 fun itv s2 h2 => ?_) hs
 obtain ⟨it, fp, tn, J, H2, e, I2, T, st2, f2, W, ⟨m0, w0⟩, turn⟩ := h2
 subst e
 -- what stays true of the iterator's objects through the loop
 have stat : ∀ {H' : Hp}, (∀ b ∈ fp, H' b = none) → ∀ b ∈ fp, FpOk X pins H' b := fun hn b hb => ⟨hn b hb, (f2 b hb).2⟩
 refine codeAny_forLoop_any (fun n s' => ∃ i σ' H', Inv X pins σ' H' s' ∧ tn i s'.heap ∧ (∀ b ∈ fp, H' b = none) ∧ W i n σ' H') ?_ m0 ⟨0, σ, H2, I2, st2, fun b hb => (f2 b hb).1, w0⟩
 rintro n s3 ⟨i, σ3, H3, I3, st3, fr3, w3⟩
 rcases turn i n σ3 H3 w3 with ⟨stop, qn⟩ | ⟨go, N, hN, step⟩
 ·refine wpAny_passesOwn hp (thn (T.done X rfl rfl rfl hc i pins s3 σ3 H3 X.xe I3 (stat fr3) st3 stop) fun r s4 ⟨hr, I4⟩ => ?_)
  subst hr
  exact wpAny_execs_nil ⟨σ3, H3, I4, qn⟩
 ·refine wpAny_passesOwn hp (thn (T.item X rfl rfl rfl hc i pins s3 σ3 H3 X.xe I3 (stat fr3) st3 go) fun r s4 ⟨u, hr, h4⟩ => ?_)
  subst hr
  refine wpAny_passesOwn hp (thn h4 fun _ s5 ⟨x, H5, I5, r5, y5, st5, fr5⟩ => ?_)
  have I5' := I5.pinned (stat fr5) (T.obj _ _ st5)
  refine wpAny_passesOwn hp (thn (hg _ s5 σ3 H5 x u _ I5' r5 (step x H5 y5)) fun _ s6 ⟨σ6, H6, I6, q6⟩ => ?_)
  refine wpAny_passesOwn hp (thn (hb _ s6 σ6 H6 _ I6 q6) fun f s7 q7 => ?_)
  have again : ∀ {σ7 : St} {H7 : Hp}, Inv X (pins ++ pinsAt fp s5.heap) σ7 H7 s7 → N σ7 H7 → ∃ m, m < n ∧ ∃ i σ' H', Inv X pins σ' H' s7 ∧ tn i s7.heap ∧ (∀ b ∈ fp, H' b = none) ∧ W i m σ' H' := fun {σ7 H7} I7 n7 => by
   obtain ⟨m', hm, w7⟩ := hN σ7 H7 n7
   refine ⟨m', hm, i + 1, σ7, H7, I7.unpinned, T.keep _ _ _ st5 fun b hb o e => (I7.pin (b, o) (List.mem_append_right _ (List.mem_append_right _ (mem_pinsAt hb e)))).1, fun b hb => ?_, w7⟩
   obtain ⟨o, e, d⟩ := T.obj _ _ st5 b hb
   exact (I7.pin (b, o) (List.mem_append_right _ (List.mem_append_right _ (mem_pinsAt hb e)))).2.1
  cases f with
  | next => obtain ⟨σ7, H7, I7, n7⟩ := q7; exact again I7 n7
  | cont => obtain ⟨σ7, H7, I7, n7⟩ := q7; exact again I7 n7
  | brk => obtain ⟨σ7, H7, I7, q7⟩ := q7; exact ⟨σ7, H7, I7.unpinned, q7⟩
  | ret v => obtain ⟨x7, σ7, H7, I7, r7, q7⟩ := q7; exact ⟨x7, σ7, H7, I7.unpinned, r7, q7⟩
end
theorem for_list {K : PySem.W.Frag} {a : Addr} {xs : List V} {g : TG} {tb : TS} {D : Ends} {σ : St} {H : Hp} (Pv : Nat → St → Hp → Prop) (h0 : Pv 0 σ H) (hl : ∀ i σ H, i ≤ xs.length → Pv i σ H → SqL K H a xs)
  (hs : ∀ i x σ H, xs[i]? = some x → Pv i σ H → g x σ H fun σ2 H2 => tb { D with nx := Pv (i + 1), ct := Pv (i + 1), bk := D.nx } σ2 H2) (hd : ∀ σ H, Pv xs.length σ H → D.nx σ H) :
  ∃ W : Nat → Nat → St → Hp → Prop, (∃ m, W 0 m σ H) ∧ ∀ i m σ H, W i m σ H →
   ((Itl K a).stop i H ∧ D.nx σ H) ∨ ((Itl K a).go i H ∧ ∃ N : St → Hp → Prop, (∀ σ' H', N σ' H' → ∃ m', m' < m ∧ W (i + 1) m' σ' H') ∧ ∀ x H', (Itl K a).yld i H x H' → g x σ H' fun σ2 H2 => tb { D with nx := N, ct := N, bk := D.nx } σ2 H2) := by
 refine ⟨fun i m σ H => m = xs.length - i ∧ i ≤ xs.length ∧ Pv i σ H, ⟨xs.length, by simp, Nat.zero_le _, h0⟩, ?_⟩
 rintro i m σ H ⟨rfl, hi, p⟩
 have q := hl i σ H hi p
 by_cases hlt : i < xs.length
 ·refine .inr ⟨⟨xs, xs[i], q, by simp [hlt]⟩, Pv (i + 1), fun σ' H' p' => ⟨xs.length - (i + 1), by omega, rfl, hlt, p'⟩, fun x H' y => ?_⟩
  obtain ⟨e, y⟩ := y
  subst e
  exact hs i x σ _ (y xs q) p
 ·have e : i = xs.length := by omega
  subst e
  exact .inl ⟨⟨xs, q, Nat.le_refl _⟩, hd σ H p⟩
end L2
namespace L2
open PySem PySem.Spec PyProof.Rows
noncomputable abbrev R2 := V → V → Hp → VK → Prop
noncomputable def OpR (X : Cx) (f : Value → Value → Sem Value) (r : R2) : Prop :=
 ∀ (pins : List (Addr × Obj)) (s : Shared) (σ : St) (H : Hp) (x y : V) (v u : Value) (Q : VK), Inv X pins σ H s → RelV x v → RelV y u → r x y H Q →
  wpAny (model X.prog X.w) X.A (f v u) (EP X pins σ Q) X.xe s
noncomputable def UnR (X : Cx) (f : Value → Sem Value) (r : V → Hp → VK → Prop) : Prop :=
 ∀ (pins : List (Addr × Obj)) (s : Shared) (σ : St) (H : Hp) (x : V) (v : Value) (Q : VK), Inv X pins σ H s → RelV x v → r x H Q →
  wpAny (model X.prog X.w) X.A (f v) (EP X pins σ Q) X.xe s
noncomputable def CallR (X : Cx) (f : Value) (r : List V → Hp → VK → Prop) : Prop :=
 ∀ (pins : List (Addr × Obj)) (s : Shared) (σ : St) (H : Hp) (xs : List V) (us : List Value) (Q : VK), Inv X pins σ H s → Vals xs us → r xs H Q →
  wpAny (model X.prog X.w) X.A (call f us) (EP X pins σ Q) X.xe s
noncomputable def tOp (r : R2) (ta tb : TE) : TE := fun σ H Q => ta σ H fun x H1 => tb σ H1 fun y H2 => r x y H2 Q
noncomputable def tUn (r : V → Hp → VK → Prop) (ta : TE) : TE := fun σ H Q => ta σ H fun x H1 => r x H1 Q
noncomputable def rI (C : Int → Int → Prop) (g : Int → Int → V) : R2 := fun x y H Q => ∃ i j, x = .int i ∧ y = .int j ∧ C i j ∧ Q (g i j) H
noncomputable def rI0 (g : Int → Int → V) : R2 := fun x y H Q => ∃ i j, x = .int i ∧ y = .int j ∧ Q (g i j) H
noncomputable def rU (g : Int → V) : V → Hp → VK → Prop := fun x H Q => ∃ i, x = .int i ∧ Q (g i) H
section
variable {X : Cx} {a b c : Expr} {ta tb tc : TE} {pos : Pos}
theorem binT (ha : PE X a ta) (hb : PE X b tb) {pins : List (Addr × Obj)} {s : Shared} {σ : St} {H : Hp} {R : V → V → Hp → Prop} (I : Inv X pins σ H s)
  (h : ta σ H fun x H1 => tb σ H1 fun y H2 => R x y H2) {Q : Value → Shared → Prop} {f : Value → Value → Sem Value}
  (hf : ∀ v u s2 x y H2, Inv X pins σ H2 s2 → RelV x v → RelV y u → R x y H2 → wpAny (model X.prog X.w) X.A (f v u) Q X.xe s2) :
  wpAny (model X.prog X.w) X.A (eval a X.env) (fun v s₁ => wpAny (model X.prog X.w) X.A (eval b X.env) (fun u s₂ => wpAny (model X.prog X.w) X.A (f v u) Q X.xe s₂) X.xe s₁) X.xe s := by
 refine thn (ha pins s σ H _ I h) fun v s1 ⟨x, H1, I1, r1, q1⟩ => ?_
 refine thn (hb pins s1 σ H1 _ I1 q1) fun u s2 ⟨y, H2, I2, r2, q2⟩ => ?_
 exact hf v u s2 x y H2 I2 r1 r2 q2
theorem pe_op {op : Operator} {r : R2} (ho : OpR X (binaryOp op) r) (ha : PE X a ta) (hb : PE X b tb) : PE X (.BinOp a op b pos) (tOp r ta tb) := by
 intro pins s σ H Q I h
 exact wpAny_BinOp (binT ha hb I h fun v u s2 x y H2 I2 rx ry q => ho pins s2 σ H2 x y v u Q I2 rx ry q)
theorem pe_un {op : UnaryOp} {r : V → Hp → VK → Prop} (ho : UnR X (unaryOp op) r) (ha : PE X a ta) : PE X (.UnaryOp op a pos) (tUn r ta) := by
 intro pins s σ H Q I h
 exact UnaryOp_ (thn (ha pins s σ H _ I h) fun v s1 ⟨x, H1, I1, r1, q1⟩ => ho pins s1 σ H1 x v Q I1 r1 q1)
theorem opI {f : Value → Value → Sem Value} {C : Int → Int → Prop} {g : Int → Int → Int}
  (rule : ∀ (i j : Int) (t u : Tok) (s : Shared) (Q : Value → Shared → Prop) (E : Value → Shared → Prop), C i j → Q (.int (g i j) s.toks) { s with toks := s.toks + 1 } → wpAny (model X.prog X.w) X.A (f (.int i t) (.int j u)) Q E s) :
  OpR X f (rI C fun i j => .int (g i j)) := by
 intro pins s σ H x y v u Q I rx ry h
 obtain ⟨i, j, rfl, rfl, hc, q⟩ := h
 obtain ⟨t, rfl⟩ := rx
 obtain ⟨t', rfl⟩ := ry
 exact rule i j t t' s _ _ hc ⟨.int (g i j), H, I.tok _, ⟨_, rfl⟩, q⟩
theorem opI0 {f : Value → Value → Sem Value} {g : Int → Int → Int}
  (rule : ∀ (i j : Int) (t u : Tok) (s : Shared) (Q : Value → Shared → Prop) (E : Value → Shared → Prop), Q (.int (g i j) s.toks) { s with toks := s.toks + 1 } → wpAny (model X.prog X.w) X.A (f (.int i t) (.int j u)) Q E s) :
  OpR X f (rI0 fun i j => .int (g i j)) := by
 intro pins s σ H x y v u Q I rx ry h
 obtain ⟨i, j, rfl, rfl, q⟩ := h
 obtain ⟨t, rfl⟩ := rx
 obtain ⟨t', rfl⟩ := ry
 exact rule i j t t' s _ _ ⟨.int (g i j), H, I.tok _, ⟨_, rfl⟩, q⟩
theorem opB0 {f : Value → Value → Sem Value} {g : Int → Int → Bool}
  (rule : ∀ (i j : Int) (t u : Tok) (s : Shared) (Q : Value → Shared → Prop) (E : Value → Shared → Prop), Q (.bool (g i j)) s → wpAny (model X.prog X.w) X.A (f (.int i t) (.int j u)) Q E s) :
  OpR X f (rI0 fun i j => .bl (g i j)) := by
 intro pins s σ H x y v u Q I rx ry h
 obtain ⟨i, j, rfl, rfl, q⟩ := h
 obtain ⟨t, rfl⟩ := rx
 obtain ⟨t', rfl⟩ := ry
 exact rule i j t t' s _ _ ⟨.bl (g i j), H, I, rfl, q⟩
noncomputable def CPow (i j : Int) : Prop := 0 ≤ j ∧ j ≤ 1000000 ∧ i.natAbs < 2 ^ 64
noncomputable def CMul (i j : Int) : Prop := (-(2 ^ 64) < i ∧ i < 2 ^ 64) ∨ (-(2 ^ 64) < j ∧ j < 2 ^ 64)
theorem CMul.ok {i j : Int} (h : CMul i j) : IntMulOk i j := by
 rcases h with ⟨h1, h2⟩ | ⟨h1, h2⟩
 ·exact .of_left (intBits_le_64 h1 h2)
 ·exact .of_right (intBits_le_64 h1 h2)
theorem op_add : OpR X (binaryOp .Add) (rI0 fun i j => .int (i + j)) := opI0 fun _ _ _ _ _ _ _ q => add_int q
theorem op_sub : OpR X (binaryOp .Sub) (rI0 fun i j => .int (i - j)) := opI0 fun _ _ _ _ _ _ _ q => sub_int q
theorem op_mul : OpR X (binaryOp .Mult) (rI CMul fun i j => .int (i * j)) := opI fun _ _ _ _ _ _ _ hc q => mul_int q hc.ok
theorem op_mod : OpR X (binaryOp .Mod) (rI (fun _ j => 0 < j) fun i j => .int (i % j)) := opI fun i j _ _ _ _ _ hc q => by
 have h1 : (0 : Int) < j := hc
 exact mod_int' (by omega) (by rw [Int.fmod_eq_emod_of_nonneg i (by omega)]; exact q)
theorem op_pow : OpR X (binaryOp .Pow) (rI CPow fun i j => .int (i ^ j.toNat)) := opI fun _ _ _ _ _ _ _ hc q => pow_int_small hc.1 hc.2.1 hc.2.2 q
theorem op_shl : OpR X (binaryOp .LShift) (rI CPow fun i j => .int (i * 2 ^ j.toNat)) := opI fun _ _ _ _ _ _ _ hc q => lshift_int_small hc.1 hc.2.1 hc.2.2 q
theorem op_and : OpR X (binaryOp .BitAnd) (rI0 fun i j => .int (Builtin.bitAnd i j)) := opI0 fun _ _ _ _ _ _ _ q => and_int q
theorem op_xor : OpR X (binaryOp .BitXor) (rI0 fun i j => .int (Builtin.bitXor i j)) := opI0 fun _ _ _ _ _ _ _ q => xor_int q
theorem unI {f : Value → Sem Value} {g : Int → Int}
  (rule : ∀ (i : Int) (t : Tok) (s : Shared) (Q : Value → Shared → Prop) (E : Value → Shared → Prop), Q (.int (g i) s.toks) { s with toks := s.toks + 1 } → wpAny (model X.prog X.w) X.A (f (.int i t)) Q E s) :
  UnR X f (rU fun i => .int (g i)) := by
 intro pins s σ H x v Q I rx h
 obtain ⟨i, rfl, q⟩ := h
 obtain ⟨t, rfl⟩ := rx
 exact rule i t s _ _ ⟨.int (g i), H, I.tok _, ⟨_, rfl⟩, q⟩
theorem un_neg : UnR X (unaryOp .USub) (rU fun i => .int (-i)) := unI fun _ _ _ _ _ q => neg_int q
end
noncomputable def scal : V → V → Bool
 | .non, .non => true | .non, .int _ => true | .int _, .non => true | .non, .bl _ => true | .bl _, .non => true | .non, .str _ => true | .str _, .non => true
 | .int _, .int _ => true | .bl _, .bl _ => true | .str _, .str _ => true | .byt _, .byt _ => true
 | .int _, .str _ => true | .str _, .int _ => true | .bl _, .str _ => true | .str _, .bl _ => true
 | _, _ => false
section
variable {X : Cx} {a b c : Expr} {ta tb tc : TE} {pos : Pos}
theorem op_lt : OpR X (compareOp .Lt) (rI0 fun i j => .bl (decide (i < j))) := opB0 fun _ _ _ _ _ _ _ q => lt_int q
theorem op_gt : OpR X (compareOp .Gt) (rI0 fun i j => .bl (decide (j < i))) := opB0 fun _ _ _ _ _ _ _ q => gt_int q
theorem op_ge : OpR X (compareOp .GtE) (rI0 fun i j => .bl (decide (j ≤ i))) := opB0 fun _ _ _ _ _ _ _ q => ge_int q
theorem nomark (b : Expr) {op : CmpOp} (h : autoParam (op ≠ .In) Ax1._auto_1) (h2 : autoParam (op ≠ .NotIn) Ax1._auto_1) : behindInMarks op b = false := by
 have e1 : (op == CmpOp.In) = false := by cases op <;> first | rfl | exact absurd rfl h
 have e2 : (op == CmpOp.NotIn) = false := by cases op <;> first | rfl | exact absurd rfl h2
 cases b <;> simp [behindInMarks, e1, e2]
noncomputable def tTest (t : TE) : TT := fun σ H Q => t σ H fun x H' => ∃ k, x = .bl k ∧ Q k H'
theorem pt_cmpR {op : CmpOp} {r : R2} (ho : OpR X (compareOp op) r) (ha : PE X a ta) (hb : PE X b tb) (hm : behindInMarks op b = false) : PT X (.Compare a [op] [b] pos) (tTest (tOp r ta tb)) := by
 intro pins s σ H Q I h
 refine wpAny_isTrue_Compare1 (thn (ha pins s σ H _ I h) fun v s1 ⟨x, H1, I1, r1, q1⟩ => thn (hb pins s1 σ H1 _ I1 q1) fun u s2 ⟨y, H2, I2, r2, q2⟩ =>
  thn (ho pins s2 σ H2 x y v u _ I2 r1 r2 q2) fun c s3 ⟨z, H3, I3, r3, k, e, q3⟩ => ?_) hm
 subst e
 cases r3
 exact wpAny_truthy_bool ⟨H3, I3, q3⟩
theorem line63 : (sizeLine : Nat) < 2 ^ 63 := by rw [sizeLine_eq]; decide
theorem vals1 {x : V} {us : List Value} (r : Vals [x] us) : ∃ u, us = [u] ∧ RelV x u := by
 cases r with
 | cons r1 r2 => cases r2; exact ⟨_, rfl, r1⟩
theorem vals2 {x y : V} {us : List Value} (r : Vals [x, y] us) : ∃ u w', us = [u, w'] ∧ RelV x u ∧ RelV y w' := by
 cases r with
 | cons r1 r2 =>
  cases r2 with
  | cons r3 r4 => cases r4; exact ⟨_, _, rfl, r1, r3⟩
theorem call_abs : CallR X (.builtin "abs") (fun xs H Q => ∃ i, xs = [.int i] ∧ Q (.int (if i < 0 then -i else i)) H) := by
 intro pins s σ H xs us Q I r h
 obtain ⟨i, rfl, q⟩ := h
 obtain ⟨u, rfl, t, rfl⟩ := vals1 r
 exact call_abs_int fun u tk => ⟨.int (if i < 0 then -i else i), H, I.tok _, ⟨_, rfl⟩, q⟩
theorem call_max2 (hc : X.calm = true) : CallR X (.builtin "max") (fun xs H Q => ∃ i j, xs = [.int i, .int j] ∧ Q (.int (if j > i then j else i)) H) := by
 intro pins s σ H xs us Q I r h
 obtain ⟨i, j, rfl, q⟩ := h
 obtain ⟨u, w', rfl, ⟨t, rfl⟩, ⟨t', rfl⟩⟩ := vals2 r
 refine max_two_ints (I.ok.hd hc) fun h' tk k => ⟨_, H, I.kept k, ?_, q⟩
 by_cases hj : j > i
 ·rw [if_pos hj, if_pos hj]; exact ⟨_, rfl⟩
 ·rw [if_neg hj, if_neg hj]; exact ⟨_, rfl⟩
theorem call_min2 (hc : X.calm = true) : CallR X (.builtin "min") (fun xs H Q => ∃ i j, xs = [.int i, .int j] ∧ Q (.int (if j < i then j else i)) H) := by
 intro pins s σ H xs us Q I r h
 obtain ⟨i, j, rfl, q⟩ := h
 obtain ⟨u, w', rfl, ⟨t, rfl⟩, ⟨t', rfl⟩⟩ := vals2 r
 refine min_two_ints (I.ok.hd hc) fun h' tk k => ⟨_, H, I.kept k, ?_, q⟩
 by_cases hj : j < i
 ·rw [if_pos hj, if_pos hj]; exact ⟨_, rfl⟩
 ·rw [if_neg hj, if_neg hj]; exact ⟨_, rfl⟩
end
end L2
namespace L2
open PySem PySem.Spec PyProof.Rows
structure ObjM (h : Heap) (x dx C : Addr) (mA : Str → Option Value) : Prop where
 obj : h.get? x = some (PySem.W.instObj C dx)
 ns : h.Ns1 dx mA
 ne : dx ≠ x
theorem lookIn_ns {h : Heap} {dx : Addr} {mA : Str → Option Value} (n : h.Ns1 dx mA) : ∃ od, h.get? dx = some od ∧ ∀ name, PySem.W.lookIn name od = some (mA name) := by
 obtain ⟨o, es, ep, ho, hd, hk, _, hm⟩ := n
 refine ⟨o, ho, fun name => ?_⟩
 have e := hm name
 unfold nsFind findBy at e
 rw [← Array.find?_toList] at e
 unfold PySem.W.lookIn
 rw [hd]
 dsimp only
 split
 ·rename_i y q
  rw [q] at e
  exact congrArg some e
 ·rename_i q
  rw [q] at e
  have a : es.toList.any (·.refKey) = false := by
   rw [List.any_eq_false]
   intro y hy
   obtain ⟨z, t, hkey⟩ := hk y (Array.mem_toList_iff.mp hy)
   simp [DictEntry.refKey, hkey]
  have a' : ¬ es.toList.any (·.refKey) = true := by rw [a]; exact Bool.false_ne_true
  rw [if_neg a']
  exact congrArg some e
theorem ObjM.look {h : Heap} {x dx C : Addr} {mA : Str → Option Value} (I : ObjM h x dx C mA) : ∃ od, PySem.W.InstAt h x (PySem.W.instObj C dx) C (some od) ∧ ∀ name, PySem.W.lookIn name od = some (mA name) :=
 let ⟨od, ho, hl⟩ := lookIn_ns I.ns
 ⟨od, ⟨I.obj, rfl, rfl, ho⟩, hl⟩
section
variable {prog : Program} {w : World} {A : Around} {E : Value → Shared → Prop} {s : Shared} {K : PySem.W.Frag} {x dx C f : Addr} {mA : Str → Option Value} {name : Str} {v : Value}
end
section
variable {P : Program} {w : World} {H H' : Hp} {h h' : Heap} {a C dx : Addr} {fs fs' : List (Str × V)}
theorem ins_get (hok : HOk P w H h) (e : H a = some (.ins C dx fs)) : ∃ mA, ObjM h a dx C mA ∧ (∀ f, RelO (fs.lookup f) (mA f)) ∧ PySem.Within mA (fs.map (·.1)) ∧ fs.length ≤ 1000 ∧ H dx = some (.own a) := by
 obtain ⟨d, z, ne, ob, mA, n, r, q⟩ := (show ObjOk P w H h a (.ins C dx fs) from hok a _ e)
 exact ⟨mA, ⟨ob, n, ne⟩, r, q, z, d⟩
end
structure Cls (K : PySem.W.Frag) (C : Addr) : Prop where
 pg : PySem.W.plainGet K C Str.empty = true
 hd : PySem.W.hasDictIn K C = true
 po : PySem.W.plainOver K C = true
 sa : PySem.W.findIn K (.ref C) "__setattr__" = some (some (.builtin "object.__setattr__"))
theorem Cls.get {K : PySem.W.Frag} {C : Addr} (c : Cls K C) (f : Str) : PySem.W.plainGet K C f = true := c.pg
section
variable {X : Cx} {pins : List (Addr × Obj)} {σ : St} {H : Hp} {s : Shared} {a C dx : Addr} {fs : List (Str × V)} {f : Str} {v : V} {A : Around} {E : Value → Shared → Prop}
end
section
variable {X : Cx} {o e value : Expr} {f : Str} {pos pos' tpos : Pos} {ta tv : TE}
end
section
variable {X : Cx} {pins : List (Addr × Obj)} {σ : St} {H : Hp} {s : Shared} {A : Around} {E : Value → Shared → Prop} {Q : Value → Shared → Prop} {c : Value} {b : Bool}
inductive TyOf (K : PySem.W.Frag) (H : Hp) : V → Value → Prop where
 | non : TyOf K H .non (.type "NoneType")
 | bl (x : Bool) : TyOf K H (.bl x) (.type "bool")
 | int (i : Int) : TyOf K H (.int i) (.type "int")
 | str (x : Str) : TyOf K H (.str x) (.type "str")
 | flt (x : UInt64) : TyOf K H (.flt x) (.type "float")
 | lst {a : Addr} {xs : List V} (e : H a = some (.lst xs)) : TyOf K H (.ref a) (.type "list")
 | frz {a : Addr} {o : Obj} {xs : List V} (e : H a = some (.frz o (.lst xs))) : TyOf K H (.ref a) (.type "list")
 | tup {a : Addr} {xs : List V} (e : H a = some (.tup xs)) : TyOf K H (.ref a) (.type "tuple")
 | dK {a : Addr} {kvs : List (Key × V)} (e : H a = some (.dK kvs)) : TyOf K H (.ref a) (.type "dict")
 | dT {a : Addr} {kvs : List (List Key × V)} (e : H a = some (.dT kvs)) : TyOf K H (.ref a) (.type "dict")
 | ins {a C dx : Addr} {fs : List (Str × V)} (e : H a = some (.ins C dx fs)) (cl : Cls K C) (ha : PySem.W.findIn K (.ref C) "__class__" = some (some (.builtin "object.__class__")))
   (hn : PySem.W.specialIn K (.builtin "object.__class__") "__get__" = some (some (.builtin "getset_descriptor.__get__"))) (htk : PySem.W.takesIn K (.builtin "object.__class__") = some true)
   (hm : PySem.W.mroIn K C (.type "object") = some true) : TyOf K H (.ref a) (.ref C)
theorem isinst_ok {x : V} {u t : Value} (I : Inv X pins σ H s) (rx : RelV x u) (ty : TyOf X.K H x t) (e : PySem.W.kitOne X.K t c = some b) (h : ∀ tk, Q (.bool b) { s with toks := tk }) :
  wpAny (model X.prog X.w) A (call (.builtin "isinstance") [u, c]) Q E s := by
 cases ty with
 | non => cases (show u = Value.none from rx); exact PySem.W.kia_one PySem.W.kitx_none I.kIn True.intro e (fun z => nomatch z) h
 | bl y => cases (show u = Value.bool y from rx); exact PySem.W.kia_one PySem.W.kitx_bool I.kIn True.intro e (fun z => nomatch z) h
 | int i => obtain ⟨t, q⟩ := (show ∃ t, u = Value.int i t from rx); cases q; exact PySem.W.kia_one PySem.W.kitx_int I.kIn True.intro e (fun z => nomatch z) h
 | str y => obtain ⟨t, q⟩ := (show ∃ t, u = Value.str y t from rx); cases q; exact PySem.W.kia_one PySem.W.kitx_str I.kIn True.intro e (fun z => nomatch z) h
 | flt y => obtain ⟨t, q⟩ := (show ∃ t, u = Value.float y t from rx); cases q; exact PySem.W.kia_one PySem.W.kitx_float I.kIn True.intro e (fun z => nomatch z) h
 | @lst a xs ea =>
  cases (show u = Value.ref a from rx)
  obtain ⟨_, _, n, _, h1⟩ := (show ObjOk X.prog X.w H s.heap a (.lst xs) from I.hok a _ ea)
  exact PySem.W.kia_one PySem.W.kitx_list I.kIn ⟨_, h1, rfl⟩ e (fun z => nomatch z) h
 | @frz a ob xs ea =>
  cases (show u = Value.ref a from rx)
  obtain ⟨_, _, _, n, _, h1⟩ := (show ObjOk X.prog X.w H s.heap a (.frz ob (.lst xs)) from I.hok a _ ea)
  exact PySem.W.kia_one PySem.W.kitx_list I.kIn ⟨_, h1, rfl⟩ e (fun z => nomatch z) h
 | @tup a xs ea =>
  cases (show u = Value.ref a from rx)
  obtain ⟨_, _, _, p⟩ := (show ObjOk X.prog X.w H s.heap a (.tup xs) from I.hok a _ ea)
  obtain ⟨o, h1, h2, _⟩ := p
  exact PySem.W.kia_one PySem.W.kitx_tuple I.kIn ⟨o, h1, h2⟩ e (fun z => nomatch z) h
 | @dK a kvs ea =>
  cases (show u = Value.ref a from rx)
  obtain ⟨_, _, vs, _, p⟩ := (show ObjOk X.prog X.w H s.heap a (.dK kvs) from I.hok a _ ea)
  obtain ⟨o, es, ep, h1, h2, _⟩ := p
  exact PySem.W.kia_one PySem.W.kitx_dict I.kIn ⟨o, h1, h2.1⟩ e (fun z => nomatch z) h
 | @dT a kvs ea =>
  cases (show u = Value.ref a from rx)
  obtain ⟨_, _, xs, _, o, es, ep, h1, h2, _⟩ := (show ObjOk X.prog X.w H s.heap a (.dT kvs) from I.hok a _ ea)
  exact PySem.W.kia_one PySem.W.kitx_dict I.kIn ⟨o, h1, h2.1⟩ e (fun z => nomatch z) h
 | @ins a C dx fs ea cl ha hn htk hm =>
  cases (show u = Value.ref a from rx)
  obtain ⟨mA, O, _⟩ := ins_get I.hok ea
  obtain ⟨od, J, _⟩ := O.look
  exact PySem.W.kia_one (PySem.W.kitx_own (cl.get _) cl.hd ha hn htk hm) I.kIn J e (fun z => nomatch z) h
end
end L2
namespace L2
open PySem PySem.Spec PyProof.Rows
structure Room (k : Nat) (A : Around) : Prop where
 hd : A.handled = none
 dp : A.depth + 3 * k + 5 < recursionLimit
 un : A.units + 16 * k + 200 < cLine
 gd : A.guards = some []
theorem Room.mono {j k : Nat} {A : Around} (r : Room k A) (h : j ≤ k) : Room j A := ⟨r.hd, by have := r.dp; omega, by have := r.un; omega, r.gd⟩
theorem Room.deeper {k : Nat} {A : Around} (r : Room (k + 1) A) (env : Env) : Room k (A.deeper env) :=
 ⟨r.hd, by have := r.dp; show A.depth + 1 + 3 * k + 5 < _; omega, by have := r.un; show A.units + 3 + 16 * k + 200 < _; omega, r.gd⟩
theorem Room.depth {k : Nat} {A : Around} (r : Room k A) : A.depth < recursionLimit := by have := r.dp; omega
theorem Room.units {k : Nat} {A : Around} (r : Room k A) : A.units + 64 < cLine := by have := r.un; omega
noncomputable def tNil : TA := fun _ H Q => Q [] H
noncomputable def tCons (ta : TE) (tr : TA) : TA := fun σ H Q => ta σ H fun x H1 => tr σ H1 fun xs H2 => Q (x :: xs) H2
section
variable {X : Cx} {e : Expr} {es : List Expr} {te : TE} {t : TA} {pos : Pos}
theorem pa_nil : PA X [] tNil := fun _ _ _ _ H Q I h => Calls.spliced_nil ⟨[], H, I, .nil, h⟩
theorem pa_cons (ha : PE X e te) (hr : PA X es t) (hs : autoParam (starEach (e :: es) X.env = (false, eval e X.env) :: starEach es X.env) Ax4._auto_1) : PA X (e :: es) (tCons te t) := by
 intro pos pins s σ H Q I h
 rw [hs]
 show wpAny _ _ (spliced ((false, eval e X.env) :: backTo pos (starEach es X.env))) _ _ s
 refine Calls.spliced_cons (thn (ha pins s σ H _ I h) fun u s1 ⟨x, H1, I1, r1, q1⟩ => ?_)
 exact thn (hr pos pins s1 σ H1 _ I1 q1) fun us s2 ⟨xs, H2, I2, r2, q2⟩ => ⟨x :: xs, H2, I2, .cons r1 r2, q2⟩
noncomputable def tTup (t : TA) : TE := fun σ H Q => t σ H fun xs H1 => xs.length ≤ sizeLine ∧ ∀ p, H1 p = none → Q (.ref p) (upd H1 p (.tup xs))
noncomputable def tLst (t : TA) : TE := fun σ H Q => t σ H fun xs H1 => xs.length ≤ sizeLine ∧ ∀ p, H1 p = none → Q (.ref p) (upd H1 p (.lst xs))
theorem pe_tup {x1} (h : PA X es t) : PE X (.Tuple es x1 pos) (tTup t) := by
 intro pins s σ H Q I hq
 refine wpAny_Tuple_spliced (thn (h pos pins s σ H _ I hq) fun us s1 ⟨xs, H1, I1, r, z, q⟩ => ⟨by rw [← r.length]; exact z, ?_⟩)
 have hf : H1 s1.heap.objs.size = none := I1.hok.fresh (Nat.le_refl _)
 refine ⟨.ref s1.heap.objs.size, upd H1 s1.heap.objs.size (.tup xs), I1.laid (t' := s1.toks) (fun b u e => Heap.get?_push_of_some _ e) (Nat.le_refl _) ?_, rfl, q _ hf⟩
 exact ⟨z, us, r, ⟨_, Heap.get?_push_size _ rfl, rfl, _, rfl⟩⟩
theorem pe_lst (h : PA X es t) : PE X (.List es pos) (tLst t) := by
 intro pins s σ H Q I hq
 refine wpAny_List_spliced (thn (h pos pins s σ H _ I hq) fun us s1 ⟨xs, H1, I1, r, z, q⟩ => ⟨by rw [← r.length]; exact z, ?_⟩)
 have hf : H1 s1.heap.objs.size = none := I1.hok.fresh (Nat.le_refl _)
 refine ⟨.ref s1.heap.objs.size, upd H1 s1.heap.objs.size (.lst xs), I1.laid (t' := s1.toks) (fun b u e => Heap.get?_push_of_some _ e) (Nat.le_refl _) ?_, rfl, q _ hf⟩
 exact ⟨z, us, 0, r, Heap.get?_push_size _ rfl⟩
end
noncomputable abbrev Sp := List V → Hp → VK → XK → Prop
noncomputable abbrev CXT := List Env → Hp → Shared → XK → Value → Shared → Prop
structure Env0 (P : Program) (w : World) (K : PySem.W.Frag) (mg : Str → Option Value) (base : Heap) (A : Around) (outer : List Env) (s : Shared) (H : Hp) : Prop where
 frames : A.frames = some outer
 mod : Mod K mg base
 bs : ∀ b o, base.get? b = some o → s.heap.get? b = some o ∧ H b = none
 bsz : base.objs.size ≤ s.heap.objs.size
 funs : s.heap.FunFrames base outer
 frf : ∀ b ∈ frs outer, H b = none
 hok : HOk P w H s.heap
 bare : AllBare s.gens
noncomputable def CE (outer : List Env) (P : Program) (w : World) (H : Hp) (s : Shared) (Q : VK) (u : Value) (s' : Shared) : Prop :=
 ∃ v H', s'.os = s.os ∧ AllBare s'.gens ∧ Un (frs outer) [] H H' s.heap s'.heap ∧ HOk P w H' s'.heap ∧ RelV v u ∧ Q v H'
noncomputable def CR (CX : CXT) (outer : List Env) (P : Program) (w : World) (H : Hp) (s : Shared) (Q : VK) (E : XK) (r : Result) (s' : Shared) : Prop :=
 match r with
 | .ok (.ret u) => CE outer P w H s Q u s'
 | .ok _ => False
 | .error e => CX outer H s E e s'
structure FnOk (P : Program) (w : World) (K : PySem.W.Frag) (mg : Str → Option Value) (base : Heap) (CX : CXT) (k : Nat) (f : Addr) (fd : FuncData) (ps : List Str) (sp : Sp) : Prop where
 len : ∀ vs H Q E, sp vs H Q E → vs.length = ps.length
 run : ∀ (A : Around) (outer : List Env) (s : Shared) (H : Hp) (args : Args) (us : List Value) (vs : List V) (Q : VK) (E : XK), Room k A → Env0 P w K mg base A outer s H → BindsTo s fd args (ps.zip us) → Vals vs us → sp vs H Q E →
  codeAny (model P w) A (.call (.ref f) args) (CR CX outer P w H s Q E) s
section
variable {X : Cx} {pins : List (Addr × Obj)} {σ : St} {H : Hp} {s s' : Shared}
theorem Inv.env0 (I : Inv X pins σ H s) : Env0 X.prog X.w X.K X.mg X.base X.A X.stack s H :=
 ⟨I.ok.frames, I.ok.mod, I.bs, Nat.le_trans I.ok.bsz I.sz, I.stack, I.stkFree, I.hok, I.bare⟩
theorem Inv.after {Q : VK} {u : Value} (I : Inv X pins σ H s) (h : CE X.stack X.prog X.w H s Q u s') : EP X pins σ Q u s' := by
 obtain ⟨v, H', os, bare, un, hok, r, q⟩ := h
 obtain ⟨hh, g, d, t, os'⟩ := s'
 obtain rfl : os' = s.os := os
 exact ⟨v, H', I.call (h' := hh) (g' := g) (d' := d) (t' := t) (ch := []) un hok bare (fun b z => absurd z (by simp)), r, q⟩
end
noncomputable def tCall (sp : Sp) (dvs : List V) (E : XK) (t : TA) : TE := fun σ H Q => t σ H fun vs H1 => sp (vs ++ dvs) H1 Q E
noncomputable def Binds (K : PySem.W.Frag) (fd : FuncData) (ps : List Str) (ds : List Value) : Prop :=
 ∀ (s : Shared) (us : List Value), K.In s.heap → (us ++ ds).length = ps.length → BindsTo s fd ⟨us, []⟩ (ps.zip (us ++ ds))
theorem Binds.all {K : PySem.W.Frag} {fd : FuncData} {ps : List Str} (h : ∀ us : List Value, us.length = ps.length → bindArgs fd ⟨us, []⟩ = pure (ps.zip us)) : Binds K fd ps [] := fun s us _ hl => by
 rw [List.append_nil] at hl ⊢
 exact .of_eq (h us hl)
noncomputable def Passes (CX : CXT) (X : Cx) (E : XK) : Prop := ∀ (pins : List (Addr × Obj)) (σ : St) (H : Hp) (s : Shared) (e : Value) (s' : Shared), Inv X pins σ H s → CX X.stack H s E e s' → X.xe e s'
section
variable {X : Cx} {CX : CXT} {k : Nat} {f C : Addr} {fd : FuncData} {ps : List Str} {sp : Sp} {dvs : List V} {ds : List Value} {E : XK} {x m : Str} {p pos apos : Pos} {e o : Expr} {es : List Expr} {ta : TE} {t : TA}
theorem run_fn {pins : List (Addr × Obj)} {σ : St} {H : Hp} {s : Shared} {Q : VK} {us : List Value} {vs : List V} (F : FnOk X.prog X.w X.K X.mg X.base CX k f fd ps sp) (hr : Room k X.A) (hb : Binds X.K fd ps ds) (hd : Vals dvs ds) (hx : Passes CX X E)
  (I : Inv X pins σ H s) (r : Vals vs us) (h : sp (vs ++ dvs) H Q E) : wpAny (model X.prog X.w) X.A (call (.ref f) us) (EP X pins σ Q) X.xe s := by
 have r2 : Vals (vs ++ dvs) (us ++ ds) := r.append hd
 have hl : (us ++ ds).length = ps.length := by rw [← r2.length]; exact F.len _ _ _ _ h
 refine wpAny_call (codeAny_mono (F.run X.A X.stack s H ⟨us, []⟩ (us ++ ds) (vs ++ dvs) Q E hr I.env0 (hb s us I.kIn hl) r2 h) fun r s' hq => ?_)
 cases r with
 | error e => exact hx pins σ H s e s' I hq
 | ok fl =>
  cases fl with
  | ret u => exact I.after hq
  | next => exact False.elim hq
  | brk => exact False.elim hq
  | cont => exact False.elim hq
theorem pe_call (F : FnOk X.prog X.w X.K X.mg X.base CX k f fd ps sp) (hr : Room k X.A) (hg : Gl X x) (hm : X.mg x = some (.ref f)) (hk : PySem.W.keepIn X.K (.ref f) = true) (hb : Binds X.K fd ps ds) (hd : Vals dvs ds) (hx : Passes CX X E)
  (ha : PA X (e :: es) t) (hdb : autoParam ((x == ("__debug__" : Str)) = false) Ax1._auto_1) (he : autoParam (starEach (e :: es) X.env = (false, eval e X.env) :: starEach es X.env) Ax4._auto_1) (hpl : autoParam ((backTo pos (starEach es X.env)).any (·.1) = false) Ax4._auto_1) :
  PE X (.Call (.Name x p) (e :: es) [] pos) (tCall sp dvs E t) := by
 intro pins s σ H Q I h
 refine wpAny_Call_Name_kw (ld_glob I hg hm ?_ hdb)
 refine PySem.W.callWith_K (h₀ := X.base) I.ok.mod.kin hk (thn (ha pos pins s σ H _ I h) fun us s1 ⟨vs, H1, I1, r, q⟩ => ⟨I1.kIn, ?_⟩) he hpl
 exact run_fn F hr hb hd hx I1 r q
end
section
variable {X : Cx} {CX : CXT} {k : Nat} {f C : Addr} {fd : FuncData} {ps ks : List Str} {sp : Sp} {E : XK} {x m : Str} {p pos apos kpos : Pos} {e o : Expr} {es : List Expr} {kws : List Keyword} {te ta : TE} {t tk : TA} {nm : Option Str}
variable {g : List Value → List Value → List Value} {gV : List V → List V → List V}
end
structure FnScope (N P : List Str) (sc : Scope) : Prop where
 kind : sc.kind = .function
 co : sc.isCoroutine = false
 gen : sc.isGenerator = false
 nd : N.Nodup
 pre : N.take P.length = P
 par : ∀ x ∈ P, sc.names.lookup x = some .local ∨ sc.names.lookup x = some .cell
 nofree : ∀ y ∈ sc.names, y.2 ≠ .free
theorem bindL_out {kindOf : Str → Option NameKind} {x : Str} : ∀ {binds : List (Str × Value)} {m : Str → Option Value}, (∀ v, (x, v) ∉ binds) → bindL kindOf binds m x = m x
 | [], _, _ => rfl
 | (n, v) :: r, m, h => by
  unfold bindL
  rw [bindL_out fun w hw => h w (List.mem_cons_of_mem _ hw)]
  split
  ·have : x ≠ n := by rintro rfl; exact h v List.mem_cons_self
   simp [this]
  ·rfl
theorem bindC_out {kindOf : Str → Option NameKind} {x : Str} : ∀ {binds : List (Str × Value)} {m : Str → Option Value}, (∀ v, (x, v) ∉ binds) → bindC kindOf binds m x = m x
 | [], _, _ => rfl
 | (n, v) :: r, m, h => by
  unfold bindC
  rw [bindC_out fun w hw => h w (List.mem_cons_of_mem _ hw)]
  split
  ·rfl
  ·have : x ≠ n := by rintro rfl; exact h v List.mem_cons_self
   simp [this]
theorem bindL_get {kindOf : Str → Option NameKind} {x : Str} {v : Value} : ∀ {P : List Str} {vs : List Value} {i : Nat} {m : Str → Option Value}, P.Nodup → P[i]? = some x → vs[i]? = some v → kindOf x = some .local →
  bindL kindOf (P.zip vs) m x = some v
 | [], _, _, _, _, h, _, _ => by simp at h
 | _ :: _, [], _, _, _, _, h, _ => by simp at h
 | p :: P, w :: vs, 0, m, nd, h1, h2, hk => by
  simp at h1 h2; subst h1; subst h2
  show bindL kindOf ((p, w) :: P.zip vs) m p = _
  unfold bindL
  rw [bindL_out fun v hv => (List.nodup_cons.mp nd).1 (List.of_mem_zip hv).1, if_pos hk]
  simp
 | p :: P, w :: vs, i + 1, m, nd, h1, h2, hk => by
  show bindL kindOf ((p, w) :: P.zip vs) m x = _
  unfold bindL
  exact bindL_get (i := i) (List.nodup_cons.mp nd).2 (by simpa using h1) (by simpa using h2) hk
theorem bindC_get {kindOf : Str → Option NameKind} {x : Str} {v : Value} : ∀ {P : List Str} {vs : List Value} {i : Nat} {m : Str → Option Value}, P.Nodup → P[i]? = some x → vs[i]? = some v → kindOf x ≠ some .local →
  bindC kindOf (P.zip vs) m x = some v
 | [], _, _, _, _, h, _, _ => by simp at h
 | _ :: _, [], _, _, _, _, h, _ => by simp at h
 | p :: P, w :: vs, 0, m, nd, h1, h2, hk => by
  simp at h1 h2; subst h1; subst h2
  show bindC kindOf ((p, w) :: P.zip vs) m p = _
  unfold bindC
  rw [bindC_out fun v hv => (List.nodup_cons.mp nd).1 (List.of_mem_zip hv).1, if_neg hk]
  simp
 | p :: P, w :: vs, i + 1, m, nd, h1, h2, hk => by
  show bindC kindOf ((p, w) :: P.zip vs) m x = _
  unfold bindC
  exact bindC_get (i := i) (List.nodup_cons.mp nd).2 (by simpa using h1) (by simpa using h2) hk
noncomputable def start (N : List Str) (vs : List V) : St := vs.map some ++ List.replicate (N.length - vs.length) none
noncomputable def cxOf (CX : CXT) (P : Program) (w : World) (K : PySem.W.Frag) (mg : Str → Option Value) (base : Heap) (N : List Str) (qual : Str) (scope : Scope) (f : Addr) (cd : Value) (A : Around) (outer : List Env) (s : Shared) (H : Hp) (E : XK) : Cx where
 prog := P
 w := w
 K := K
 mg := mg
 base := base
 A := A.deeper (envOfC qual scope s.heap.objs.size f cd)
 N := N
 s₀ := s
 H₀ := H
 env := envOfC qual scope s.heap.objs.size f cd
 outer := outer
 stack := envOfC qual scope s.heap.objs.size f cd :: outer
 ex := []
 calm := true
 fn := fun _ => true
 pn := []
 xe := fun e s' => wpAny (model P w) (A.deeper (envOfC qual scope s.heap.objs.size f cd)) (leaving (envOfC qual scope s.heap.objs.size f cd) e) (fun _ s'' => CX outer H s E e s'') (fun e' s'' => CX outer H s E e' s'') s'
theorem cell_has {sc : Scope} {n : Nat} {x : Str} (h : sc.names.lookup x = some .cell) : ∃ c, (cellsFrom n sc.names []).lookup x = some c := by
 have q := PySem.W.cellsFrom_some sc.names n [] (.inl h)
 exact Option.isSome_iff_exists.mp q
theorem inv_start {CX : CXT} {P : Program} {w : World} {K : PySem.W.Frag} {mg : Str → Option Value} {base : Heap} {N ps : List Str} {qual : Str} {scope : Scope} {f : Addr} {cd : Value} {A : Around} {outer : List Env} {s s1 : Shared} {H : Hp} {E : XK} {us : List Value} {vs : List V}
  (S : FnScope N ps scope) (hd : A.handled = none) (e0 : Env0 P w K mg base A outer s H) (hl : vs.length = ps.length) (r : Vals vs us)
  (x : InCallC s s.heap.objs.size (bindL (envOfC qual scope s.heap.objs.size f cd).kindOf (ps.zip us) fun _ => none) (cellsFrom (s.heap.objs.size + 1) scope.names []) (bindC (envOfC qual scope s.heap.objs.size f cd).kindOf (ps.zip us) fun _ => none) s1) :
  Inv (cxOf CX P w K mg base N qual scope f cd A outer s H E) [] (start N vs) H s1 := by
 have hpl : ps.length ≤ N.length := by have := congrArg List.length S.pre; rw [List.length_take] at this; omega
 obtain ⟨h1, tk, rfl, hk⟩ := x.done
 have noA : ∀ b : Addr, b ∉ (cxOf CX P w K mg base N qual scope f cd A outer s H E).ex := fun b z => absurd (show b ∈ ([] : List Addr) from z) (by simp)
 refine ⟨⟨e0.mod, S.kind, rfl, rfl, Nat.le_refl _, fun y z c h1 h2 => ?_, fun y hy => ?_, fun y c _ h => ?_, fun _ => hd, Around.frames_deeper e0.frames, .inr ⟨rfl, rfl⟩, fun b z => absurd z (noA b), e0.bs, e0.bsz, fun b _ _ => noA b, fun b z => absurd z (noA b), e0.funs, e0.frf⟩,
  rfl, e0.bare, Un.kept hk, ⟨_, x.toInCall.ns, fun i y v h1 h2 h3 => ?_⟩, fun y c h => ⟨_, x.cell y c h⟩, e0.hok.fresh (Nat.le_refl _), fun y c h => ?_, fun p hp => absurd (show p ∈ ([] : List (Addr × Obj)) from hp) (by simp), e0.hok.kept hk, ?_⟩
 ·exact name_of_addr x.apart (PySem.mem_of_lookup h1) (PySem.mem_of_lookup h2)
 ·have hy : scope.names.lookup y = some .cell ∨ scope.names.lookup y = some .free := hy
  rcases hy with hy | hy
  ·exact cell_has hy
  ·exact absurd rfl (S.nofree _ (PySem.mem_of_lookup hy))
 ·exact Nat.le_of_lt (x.above y c (PySem.mem_of_lookup h))
 ·have hi : i < vs.length := by
   unfold start at h2
   by_cases hi : i < vs.length
   ·exact hi
   ·rw [List.getElem?_append_right (by simpa using hi)] at h2
    rw [List.getElem?_replicate] at h2
    split at h2 <;> cases h2
  have ha : vs[i]? = some v := by
   unfold start at h2
   rw [List.getElem?_append_left (by simpa using hi), List.getElem?_map] at h2
   cases e : vs[i]? with
   | none => rw [e] at h2; cases h2
   | some a => rw [e] at h2; cases h2; rfl
  obtain ⟨u, hu, rv⟩ := r.get ha
  have hp : ps[i]? = some y := by
   rw [← S.pre, List.getElem?_take_of_lt (by omega)]; exact h1
  have ndP : ps.Nodup := by rw [← S.pre]; exact S.nd.sublist (List.take_sublist _ _)
  refine ⟨u, rv, ?_⟩
  rcases S.par y (List.mem_of_getElem? hp) with k | k
  ·exact .inl ⟨k, bindL_get ndP hp hu k⟩
  ·obtain ⟨c, e⟩ := cell_has (n := s.heap.objs.size + 1) k
   refine .inr ⟨.inl k, c, e, ?_⟩
   have q := x.cell y c e
   rw [bindC_get ndP hp hu (by show scope.names.lookup y ≠ _; rw [k]; decide)] at q
   exact q
 ·exact e0.hok.fresh (Nat.le_of_lt (x.above y c (PySem.mem_of_lookup h)))
 ·unfold start
  show _ = N.length
  rw [List.length_append, List.length_map, List.length_replicate]
  omega
theorem fn_of {CX : CXT} {P : Program} {w : World} {K : PySem.W.Frag} {mg : Str → Option Value} {base : Heap} {k : Nat} {f : Addr} {name qual : Str} {params : Arguments} {body : List Stmt} {scope : Scope} {dV kV doc pm cdv ct oc : Value} {an od : Option Addr}
  {osl : Array (Option Value)} {N ps : List Str} {sp : Sp} (lk : K.lookup f = some ⟨oc, od, .func (PySem.W.fnOf name qual params body scope dV kV doc pm an cdv ct), osl⟩) (hcd : PySem.W.codeIn K cdv qual = true) (S : FnScope N ps scope)
  (len : ∀ vs H Q E, sp vs H Q E → vs.length = ps.length)
  (hbody : ∀ (A : Around) (outer : List Env) (s : Shared) (H : Hp) (vs : List V) (Q : VK) (E : XK), Room k (A.deeper (envOfC qual scope s.heap.objs.size f cdv)) → sp vs H Q E →
   ∃ t, PSs (cxOf CX P w K mg base N qual scope f cdv A outer s H E) body t ∧ t { nx := fun _ H' => Q .non H', rt := Q } (start N vs) H) :
  FnOk P w K mg base CX (k + 1) f (PySem.W.fnOf name qual params body scope dV kV doc pm an cdv ct) ps sp := by
 refine ⟨len, fun A outer s H args us vs Q E hr e0 hb r hsp => ?_⟩
 have hl := len _ _ _ _ hsp
 have KX : K.In s.heap := e0.mod.kin.keeps fun b o e => (e0.bs b o e).1
 have lim : s.heap.NoLimit := e0.mod.nolimit.keeps fun b o e => (e0.bs b o e).1
 have hkind : ∀ y ∈ ps.zip us, scope.names.lookup y.1 = some .local ∨ (scope.names.lookup y.1 = some .cell ∧ ((cellsFrom (s.heap.objs.size + 1) scope.names []).lookup y.1).isSome = true) := fun hq0 hy => by
  obtain ⟨n, v⟩ := hq0
  rcases S.par n (List.of_mem_zip hy).1 with q | q
  ·exact .inl q
  ·exact .inr ⟨q, PySem.W.cellsFrom_some _ _ _ (.inl q)⟩
 refine codeAny_call_function hr.depth (KX _ _ lk) rfl S.co S.gen rfl (PySem.W.codeRec_of KX hcd) (hb _ _ _ _ ?_)
 refine wpAny_newFunctionEnv_cells S.kind hkind fun env he s1 x => ?_
 subst he
 refine ⟨lim.keeps x.toInCall.keep, codeAny_func ?_⟩
 obtain ⟨t, ht, hq⟩ := hbody A outer s H vs Q E (hr.deeper _) hsp
 have I : Inv (cxOf CX P w K mg base N qual scope f cdv A outer s H E) [] (start N vs) H s1 := inv_start S hr.hd e0 hl r x
 refine wpAny_mono (ht [] s1 (start N vs) H _ I hq) (fun fl s' hs => ?_) fun e s' hs => hs
 have fin : ∀ {σ' : St} {H' : Hp} {v : V} {u : Value}, Inv (cxOf CX P w K mg base N qual scope f cdv A outer s H E) [] σ' H' s' → RelV v u → Q v H' → CE outer P w H s Q u s' :=
  fun {σ' H' v u} J rv q => ⟨v, H', J.os, J.bare, J.base, J.hok, rv, q⟩
 cases fl with
 | ret u =>
  obtain ⟨v, σ', H', J, rv, q⟩ := hs
  exact fin J rv q
 | next =>
  obtain ⟨σ', H', J, q⟩ := hs
  exact fin (v := V.non) (u := Value.none) J rfl q
 | brk =>
  obtain ⟨_, _, _, q⟩ := hs
  exact False.elim q
 | cont =>
  obtain ⟨_, _, _, q⟩ := hs
  exact False.elim q
end L2
namespace L2
open PySem PySem.Spec PyProof.Rows
section
variable {X : Cx} {x : Str} {p pos : Pos} {e : Expr} {es : List Expr} {t : TA} {id T : String} {r : List V → Hp → VK → Prop}
noncomputable def tCB (r : List V → Hp → VK → Prop) (t : TA) : TE := fun σ H Q => t σ H fun vs H1 => r vs H1 Q
theorem pe_callB (hc : CallR X (.builtin id) r) (hg : Gl X x) (hm : X.mg x = none) (hv : bootBuiltins x = some (.builtin id)) (ha : PA X (e :: es) t) (hn : autoParam (x ≠ "__name__") Ax1._auto_1) (hdb : autoParam ((x == ("__debug__" : Str)) = false) Ax1._auto_1)
  (he : autoParam (starEach (e :: es) X.env = (false, eval e X.env) :: starEach es X.env) Ax4._auto_1) (hpl : autoParam ((backTo pos (starEach es X.env)).any (·.1) = false) Ax4._auto_1) : PE X (.Call (.Name x p) (e :: es) [] pos) (tCB r t) := by
 intro pins s σ H Q I h
 refine wpAny_Call_Name_kw (ld_blt I hg hm hv ?_ hn hdb)
 exact PyProof.Rows.callWith_builtin1 (thn (ha pos pins s σ H _ I h) fun us s1 ⟨vs, H1, I1, r1, q1⟩ => hc pins s1 σ H1 vs us Q I1 r1 q1) he hpl
theorem pe_callTy (hc : CallR X (.type T) r) (hg : Gl X x) (hm : X.mg x = none) (hv : bootBuiltins x = some (.type T)) (ha : PA X (e :: es) t) (hn : autoParam (x ≠ "__name__") Ax1._auto_1) (hdb : autoParam ((x == ("__debug__" : Str)) = false) Ax1._auto_1)
  (he : autoParam (starEach (e :: es) X.env = (false, eval e X.env) :: starEach es X.env) Ax4._auto_1) (hpl : autoParam ((backTo pos (starEach es X.env)).any (·.1) = false) Ax4._auto_1) : PE X (.Call (.Name x p) (e :: es) [] pos) (tCB r t) := by
 intro pins s σ H Q I h
 refine wpAny_Call_Name_kw (ld_blt I hg hm hv ?_ hn hdb)
 exact PyProof.Rows.callWith_type1 (thn (ha pos pins s σ H _ I h) fun us s1 ⟨vs, H1, I1, r1, q1⟩ => hc pins s1 σ H1 vs us Q I1 r1 q1) he hpl
end
end L2
namespace HT
open PySem PyProof.Rows
section
open PySem.SeqAt
open PySem.AutoSeq1 (wpAny_loadPart')
open PySem.MeetsSeq PySem.MeetsSeq2 PySem.MeetsSeq3
end
section
variable {prog : Program} {w : World} {A : Around} {E : Value → Shared → Prop} {s : Shared}
noncomputable def sIx (n d : Nat) : Option Int → Nat
 | none => d
 | some v => if v < 0 then (v + (n : Int)).toNat else min v.toNat n
end
end HT
namespace L2
open PySem PySem.Spec PyProof.Rows
noncomputable abbrev TO := St → Hp → (Option Int → Hp → Prop) → Prop
noncomputable def PO (X : Cx) (e : Option Expr) (t : TO) : Prop :=
 ∀ (pins : List (Addr × Obj)) (s : Shared) (σ : St) (H : Hp) (Q : Option Int → Hp → Prop), Inv X pins σ H s → t σ H Q →
  wpAny (model X.prog X.w) X.A (evalPart e X.env) (fun u s' => ∃ o H', Inv X pins σ H' s' ∧ IsPart u o ∧ Q o H') X.xe s
theorem intsAre_of {ns : List Int} : ∀ {us : List Value}, Vals (ns.map V.int) us → IntsAre us ns := by
 induction ns with
 | nil => intro us r; rw [List.map_nil] at r; cases r; exact .nil
 | cons n ns ih =>
  intro us r
  rw [List.map_cons] at r
  cases r with
  | cons r1 r2 =>
   obtain ⟨t, e⟩ := r1
   subst e
   exact .cons n t (ih r2)
section
variable {X : Cx} {e : Expr} {te : TE} {lo hi : Option Expr} {tl th : TO} {pos p2 : Pos}
end
end L2
namespace L2
open PySem PySem.Spec PyProof.Rows
noncomputable def ixN (n : Nat) (i : Int) : Option Nat := if 0 ≤ i then (if i < n then some i.toNat else none) else if -(n : Int) ≤ i then some (i + n).toNat else none
noncomputable def atI {α : Type} (xs : List α) (i : Int) : Option α := (ixN xs.length i).bind fun j => xs[j]?
theorem ixN_seq {n : Nat} {i : Int} {j : Nat} (h : ixN n i = some j) : seqIndex? i n = some j ∧ j < n ∧ -(n : Int) ≤ i ∧ i < n := by
 unfold ixN at h
 by_cases h0 : 0 ≤ i
 ·rw [if_pos h0] at h
  by_cases h1 : i < n
  ·rw [if_pos h1] at h
   have e : i.toNat = j := Option.some.inj h
   exact ⟨by rw [seqIndex_of h0 h1, e], by omega, by omega, h1⟩
  ·rw [if_neg h1] at h; cases h
 ·rw [if_neg h0] at h
  by_cases h1 : -(n : Int) ≤ i
  ·rw [if_pos h1] at h
   have e : (i + n).toNat = j := Option.some.inj h
   exact ⟨by rw [seqIndex_neg (by omega) h1, e], by omega, h1, by omega⟩
  ·rw [if_neg h1] at h; cases h
theorem atI_get {α : Type} {xs : List α} {i : Int} {v : α} (h : atI xs i = some v) : ∃ j, seqIndex? i xs.length = some j ∧ xs[j]? = some v ∧ j < xs.length ∧ -(xs.length : Int) ≤ i ∧ i < xs.length := by
 unfold atI at h
 cases e : ixN xs.length i with
 | none => rw [e] at h; cases h
 | some j =>
  rw [e] at h
  obtain ⟨h1, h2, h3, h4⟩ := ixN_seq e
  exact ⟨j, h1, h, h2, h3, h4⟩
theorem atI_nat {α : Type} {xs : List α} {j : Nat} {v : α} (h : xs[j]? = some v) : atI xs (j : Int) = some v := by
 have hj : j < xs.length := (List.getElem?_eq_some_iff.mp h).1
 have e : ixN xs.length (j : Int) = some j := by
  unfold ixN
  rw [if_pos (by omega), if_pos (by omega)]; simp
 unfold atI; rw [e]; exact h
noncomputable def PlainIx (b : Expr) : Prop := ∀ o i, subscripted b false o i = operate [o, i] (getItem o i)
noncomputable def IxR (X : Cx) (r : R2) : Prop :=
 ∀ (value slice : Expr) (pins : List (Addr × Obj)) (s : Shared) (σ : St) (H : Hp) (x y : V) (v u : Value) (Q : VK), Inv X pins σ H s → RelV x v → RelV y u → r x y H Q →
  subscripted slice false v u = operate [v, u] (getItem v u) → wpAny (model X.prog X.w) X.A (subscriptTail value slice v u) (EP X pins σ Q) X.xe s
noncomputable def MtR (X : Cx) (id : String) (r : V → List V → Hp → VK → Prop) : Prop :=
 ∀ (pins : List (Addr × Obj)) (s : Shared) (σ : St) (H : Hp) (x : V) (xs : List V) (v : Value) (us : List Value) (Q : VK), Inv X pins σ H s → RelV x v → Vals xs us → r x xs H Q →
  wpAny (model X.prog X.w) X.A (call (.builtin id) (v :: us)) (EP X pins σ Q) X.xe s
section
variable {X : Cx} {a b : Expr} {ta tb : TE} {pos : Pos}
theorem IxR.or {r r' : R2} (h : IxR X r) (h' : IxR X r') : IxR X (fun x y H Q => r x y H Q ∨ r' x y H Q) := by
 intro value slice pins s σ H x y v u Q I rx ry q hs
 rcases q with q | q
 ·exact h value slice pins s σ H x y v u Q I rx ry q hs
 ·exact h' value slice pins s σ H x y v u Q I rx ry q hs
theorem pe_ix {r : R2} (hr : IxR X r) (ha : PE X a ta) (hb : PE X b tb) (hs : PlainIx b) : PE X (.Subscript a b pos) (tOp r ta tb) := by
 intro pins s σ H Q I h
 exact Subscript_ (binT ha hb I h fun v u s2 x y H2 I2 rx ry q => hr a b pins s2 σ H2 x y v u Q I2 rx ry q (hs _ _))
noncomputable def rIxL (K : PySem.W.Frag) : R2 := fun x y H Q => ∃ p xs i v, x = .ref p ∧ y = .int i ∧ SqL K H p xs ∧ atI xs i = some v ∧ Q v H
noncomputable def rIxT (K : PySem.W.Frag) : R2 := fun x y H Q => ∃ p xs i v, x = .ref p ∧ y = .int i ∧ SqT K H p xs ∧ atI xs i = some v ∧ Q v H
noncomputable def rIxS : R2 := fun x y H Q => ∃ z i c, x = .str z ∧ y = .int i ∧ z.length ≤ sizeLine ∧ atI z.cps.toList i = some c ∧ Q (.str ⟨#[c]⟩) H
theorem ix_list : IxR X (rIxL X.K) := by
 intro value slice pins s σ H x y v u Q I rx ry h hs
 obtain ⟨p, xs, i, z, rfl, rfl, hq, he, q⟩ := h
 cases rx
 obtain ⟨t, rfl⟩ := ry
 obtain ⟨its, r, pl, hz⟩ := I.list hq
 obtain ⟨j, h1, h2, h3, h4, h5⟩ := atI_get he
 obtain ⟨w, ew, rw'⟩ := r.get h2
 have hl := r.length
 have hn := line63
 have fin : EP X pins σ Q w s := ⟨z, H, I, rw', q⟩
 by_cases h0 : 0 ≤ i
 ·have hj : i.toNat = j := by
   rw [seqIndex_of h0 h5] at h1
   exact Option.some.inj h1
  exact item_listR pl.isList h0 (by omega) (by rw [hj]; simpa using ew) fin hs
 ·have hj : (i + (its.toArray.size : Int)).toNat = j := by
   rw [seqIndex_neg (by omega) h4] at h1
   rw [List.size_toArray, ← hl]
   exact Option.some.inj h1
  exact subscriptTail_builtinR (x := w) pl.isList.typeIs slot_list_getitem.lookup
   (wpAny_getItem_list_neg (Q := fun r s' => r = w ∧ EP X pins σ Q r s') pl.isList (by omega) (by rw [List.size_toArray] <;> omega) (by omega) (by rw [hj]; simpa using ew) ⟨rfl, fin⟩) hs
theorem ix_tup : IxR X (rIxT X.K) := by
 intro value slice pins s σ H x y v u Q I rx ry h hs
 obtain ⟨p, xs, i, z, rfl, rfl, hq, he, q⟩ := h
 cases rx
 obtain ⟨t, rfl⟩ := ry
 obtain ⟨its, r, pl, hz⟩ := I.tuple hq
 obtain ⟨j, h1, h2, h3, h4, h5⟩ := atI_get he
 obtain ⟨w, ew, rw'⟩ := r.get h2
 have hl := r.length
 have hn := line63
 have fin : EP X pins σ Q w s := ⟨z, H, I, rw', q⟩
 exact subscriptTail_builtinR (x := w) pl.typeIs slot_tuple_getitem.lookup
  (getItem_tuple (j := j) (Q := fun r s' => r = w ∧ EP X pins σ Q r s') pl (by omega) (by omega) (by rw [List.size_toArray, ← hl]; exact h1) (by simpa using ew) ⟨rfl, fin⟩) hs
theorem ix_str : IxR X rIxS := by
 intro value slice pins s σ H x y v u Q I rx ry h hs
 obtain ⟨z, i, c, rfl, rfl, hz, he, q⟩ := h
 obtain ⟨t, rfl⟩ := rx
 obtain ⟨t', rfl⟩ := ry
 obtain ⟨j, h1, h2, h3, h4, h5⟩ := atI_get he
 have hl : z.cps.toList.length = z.length := by simp [Str.length]
 rw [hl] at h1 h4 h5
 have hn := line63
 exact tail_any (typeIs_str s z t) slot_str_getitem.lookup (getItem_str (c := c) (by
  have e1 : decide (i < -(2 ^ 63 : Int)) = false := decide_eq_false (by omega)
  have e2 : decide (i ≥ 2 ^ 63) = false := decide_eq_false (by omega)
  rw [e1, e2, Bool.or_false]) (by rw [h1]; simpa using h2) ⟨.str ⟨#[c]⟩, H, I.tok _, ⟨_, rfl⟩, q⟩) hs
noncomputable def rIx (K : PySem.W.Frag) : R2 := fun x y H Q => rIxL K x y H Q ∨ rIxT K x y H Q ∨ rIxS x y H Q
theorem ix_seq : IxR X (rIx X.K) := ix_list.or (ix_tup.or ix_str)
theorem call_len_seq : CallR X (.builtin "len") (fun xs H Q => ∃ p ys, xs = [.ref p] ∧ (SqL X.K H p ys ∨ SqT X.K H p ys) ∧ Q (.int ys.length) H) := by
 intro pins s σ H xs us Q I r h
 obtain ⟨p, ys, rfl, hq, q⟩ := h
 obtain ⟨u, rfl, rx⟩ := vals1 r
 cases rx
 have hn := line63
 rcases hq with hq | hq
 ·obtain ⟨its, r', pl, hz⟩ := I.list hq
  have hlen := r'.length
  exact Calls.call_len_list pl.isList (by simp only [List.size_toArray] <;> omega) ⟨.int ys.length, H, I.tok _, ⟨s.toks + 1, by rw [List.size_toArray, hlen]⟩, q⟩
 ·obtain ⟨its, r', pl, hz⟩ := I.tuple hq
  have hlen := r'.length
  exact len_tuple pl (by simp only [List.size_toArray] <;> omega) ⟨.int ys.length, H, I.tok _, ⟨s.toks + 1, by rw [List.size_toArray, hlen]⟩, q⟩
theorem call_len_str : CallR X (.builtin "len") (fun xs H Q => ∃ z, xs = [.str z] ∧ z.length ≤ sizeLine ∧ Q (.int z.length) H) := by
 intro pins s σ H xs us Q I r h
 obtain ⟨z, rfl, hz, q⟩ := h
 obtain ⟨u, rfl, t, rfl⟩ := vals1 r
 have hn := line63
 exact len_str (by omega) ⟨.int z.length, H, I.tok _, ⟨_, rfl⟩, q⟩
theorem CallR.or {f : Value} {r r' : List V → Hp → VK → Prop} (h : CallR X f r) (h' : CallR X f r') : CallR X f (fun xs H Q => r xs H Q ∨ r' xs H Q) := by
 intro pins s σ H xs us Q I rs q
 rcases q with q | q
 ·exact h pins s σ H xs us Q I rs q
 ·exact h' pins s σ H xs us Q I rs q
noncomputable def tyV (K : PySem.W.Frag) (T : String) (x : V) (H : Hp) : Prop := match x with
 | .str _ => T = "str"
 | .int _ => T = "int"
 | .ref p => (T = "list" ∧ ∃ xs, SqL K H p xs) ∨ (T = "tuple" ∧ ∃ o, K.lookup p = some o ∧ o.cls = .type "tuple" ∧ o.dict = none) ∨
   (T = "dict" ∧ ((∃ kvs, H p = some (.dK kvs)) ∨ ∃ kvs, H p = some (.dT kvs))) ∨ (T = "set" ∧ ∃ S n, H p = some (.set S n))
 | _ => False
theorem tyV_is {pins : List (Addr × Obj)} {σ : St} {H : Hp} {s : Shared} {T : String} {x : V} {v : Value} (I : Inv X pins σ H s) (r : RelV x v) (ty : tyV X.K T x H) :
  s.TypeIs v T ∧ ∀ a, v = .ref a → ∃ ob, s.heap.get? a = some ob ∧ ob.dict = none := by
 cases x with
 | str z =>
  obtain ⟨t, rfl⟩ := r
  cases (show T = "str" from ty)
  exact ⟨typeIs_str s z t, fun _ e => nomatch e⟩
 | int i =>
  obtain ⟨t, rfl⟩ := r
  cases (show T = "int" from ty)
  exact ⟨typeIs_int s i t, fun _ e => nomatch e⟩
 | ref p =>
  cases r
  rcases ty with ⟨rfl, xs, hq⟩ | ⟨rfl, o, hk, hc, hd⟩ | ⟨rfl, hk⟩ | ⟨rfl, S, n, hk⟩
  ·obtain ⟨its, _, pl, _⟩ := I.list hq
   refine ⟨pl.isList.typeIs, fun a e => ?_⟩
   cases e
   obtain ⟨o, n, e, c, hd, _⟩ := pl
   exact ⟨o, e, hd⟩
  ·refine ⟨⟨o, I.kIn p o hk, hc⟩, fun a e => ?_⟩
   cases e
   exact ⟨o, I.kIn _ o hk, hd⟩
  ·have z : ∃ o, s.heap.get? p = some o ∧ o.ExactDict := by
    rcases hk with ⟨kvs, hk⟩ | ⟨kvs, hk⟩
    ·obtain ⟨_, _, _, _, o, _, _, e, ex, _⟩ := I.hok p _ hk
     exact ⟨o, e, ex⟩
    ·obtain ⟨_, _, _, _, o, _, _, e, ex, _⟩ := I.hok p _ hk
     exact ⟨o, e, ex⟩
   obtain ⟨o, e, ex⟩ := z
   refine ⟨⟨o, e, ex.1⟩, fun a e2 => ?_⟩
   cases e2
   exact ⟨o, e, ex.2.1⟩
  ·obtain ⟨o, _, _, _, e, ex, _⟩ := I.hok p _ hk
   refine ⟨⟨o, e, ex.1⟩, fun a e2 => ?_⟩
   cases e2
   exact ⟨o, e, ex.2.1⟩
 | _ => exact False.elim ty
noncomputable def tBM0 (K : PySem.W.Frag) (T : String) (r : V → List V → Hp → VK → Prop) (to : TE) : TE := fun σ H Q => to σ H fun x H1 => tyV K T x H1 ∧ r x [] H1 Q
noncomputable def tBM (K : PySem.W.Frag) (T : String) (r : V → List V → Hp → VK → Prop) (to : TE) (t : TA) : TE := fun σ H Q => to σ H fun x H1 => tyV K T x H1 ∧ t σ H1 fun xs H2 => r x xs H2 Q
variable {o e : Expr} {es : List Expr} {to : TE} {t : TA} {name : Str} {apos cpos : Pos} {T id : String} {r : V → List V → Hp → VK → Prop}
theorem pe_bm0 (pa : PlainAttrs T) (slot : Slot T name id) (hty : typeOf (.builtin id) = pure (.type "method_descriptor")) (hm : MtR X id r) (ho : PE X o to)
  (hbase : autoParam (attributeBase o name X.env (eval o X.env) = eval o X.env) Ax4._auto_1) (hline : autoParam ((apos.endLine == cpos.line) = true) Ax4._auto_1) : PE X (.Call (.Attribute o name apos) [] [] cpos) (tBM0 X.K T r to) := by
 intro pins s σ H Q I h
 refine wpAny_Call_method0_late hbase hline (thn (ho pins s σ H _ I h) fun v s1 ⟨x, H1, I1, r1, ty, q1⟩ => ?_)
 obtain ⟨h1, h2⟩ := tyV_is I1 r1 ty
 exact ⟨T, id, pa, slot, hty, h1, h2, Calls.callWith_builtin rfl (PySem.evalArgs_none (hm pins s1 σ H1 x [] v [] Q I1 r1 .nil q1))⟩
theorem pe_bm (pa : PlainAttrs T) (slot : Slot T name id) (hty : typeOf (.builtin id) = pure (.type "method_descriptor")) (hm : MtR X id r) (ho : PE X o to) (ha : PA X (e :: es) t)
  (hbase : autoParam (attributeBase o name X.env (eval o X.env) = eval o X.env) Ax4._auto_1)
  (hfew : autoParam (((backTo cpos (starEach (e :: es) X.env)).all (fun x => !x.1) && (backToKw cpos (keywordEach [] X.env)).all (fun x => x.1.isSome)
   && decide ((e :: es).length + ([] : List Keyword).length + (if ([] : List Keyword).isEmpty then 0 else 1) < 30)) = true) Ax4._auto_1)
  (hline : autoParam ((apos.endLine == cpos.line) = true) Ax4._auto_1) (hs : autoParam (starEach (e :: es) X.env = (false, eval e X.env) :: starEach es X.env) Ax4._auto_1) (hplain : autoParam ((backTo cpos (starEach es X.env)).any (·.1) = false) Ax4._auto_1) :
  PE X (.Call (.Attribute o name apos) (e :: es) [] cpos) (tBM X.K T r to t) := by
 intro pins s σ H Q I h
 refine wpAny_Call_method_late hbase hfew hline rfl (thn (ho pins s σ H _ I h) fun v s1 ⟨x, H1, I1, r1, ty, q1⟩ => ?_)
 obtain ⟨h1, h2⟩ := tyV_is I1 r1 ty
 refine ⟨T, id, pa, slot, hty, h1, h2, ?_⟩
 have hA := ha cpos pins s1 σ H1 _ I1 q1
 rw [hs] at hA ⊢
 refine Calls.callWith_builtin (by show (false || (backTo cpos (starEach es X.env)).any (·.1)) = false; rw [hplain] <;> rfl) (Calls.evalArgs_plain ?_)
 exact thn hA fun us s2 ⟨vs, H2, I2, r2, q2⟩ => hm pins s2 σ H2 x vs v us Q I2 r1 r2 q2
end
end L2
namespace L2
open PySem PySem.Spec PyProof.Rows
noncomputable def MtM (X : Cx) (id : String) (r : V → List V → Hp → VK → Prop) : Prop :=
 ∀ (pins : List (Addr × Obj)) (s : Shared) (σ : St) (H : Hp) (x : V) (xs : List V) (v : Value) (us : List Value) (Q : VK), Inv X pins σ H s → RelV x v → Vals xs us → r x xs H Q →
  wpAny (model X.prog X.w) X.A (call (.builtin id) (v :: us)) (EP X pins σ Q) X.xe s
theorem Vals.one {x : V} {us : List Value} (h : Vals [x] us) : ∃ u, us = [u] ∧ RelV x u := by
 cases h with
 | cons r h => cases h; exact ⟨_, rfl, r⟩
section
variable {X : Cx} {pins : List (Addr × Obj)} {σ : St} {H : Hp} {s : Shared} {l b : Addr} {xs ys zs : List V}
theorem Inv.lset {its its' : List Value} {n : Nat} {f : Array Value → Array Value} {t' : Nat} (I : Inv X pins σ H s) (hH : H l = some (.lst xs))
  (e : s.heap.get? l = some { cls := .type "list", data := .seq its.toArray n }) (hf : f its.toArray = its'.toArray) (hv : Vals ys its') (hz : ys.length ≤ sizeLine) :
  Inv X pins σ (upd H l (.lst ys)) { s with heap := s.heap.update l (Obj.mapSeq f), toks := t' } := by
 have q := PySem.IsL.update e f
 rw [hf] at q
 refine I.write (x := l) (e := l) (by rw [hH]; exact trivial) (.inl rfl) (fun b' u hb hu => (Heap.get?_update_other s.heap (Obj.mapSeq f) (Ne.symm hb)).trans hu) ⟨_, q⟩ ?_
 exact ⟨hz, its', _, hv, q⟩
theorem Inv.lnew {its : List Value} {t' : Nat} (I : Inv X pins σ H s) (hv : Vals ys its) (hz : ys.length ≤ sizeLine) :
  Inv X pins σ (upd H s.heap.objs.size (.lst ys)) { s with heap := s.heap.push { cls := .type "list", data := .seq its.toArray }, toks := t' } :=
 I.laid (fun _ _ q => Heap.get?_push_of_some _ q) (Nat.le_refl _) ⟨hz, its, 0, hv, Heap.get?_push_size _ rfl⟩
theorem Inv.fresh (I : Inv X pins σ H s) : H s.heap.objs.size = none := I.hok.fresh (Nat.le_refl _)
theorem Inv.lstM (I : Inv X pins σ H s) (hH : H l = some (.lst xs)) : xs.length ≤ sizeLine ∧ ∃ (its : List Value) (n : Nat), Vals xs its ∧ xs.length = its.length ∧ s.heap.get? l = some { cls := .type "list", data := .seq its.toArray n } := by
 obtain ⟨z, its, n, r, e⟩ := I.hok l _ hH
 exact ⟨z, its, n, r, r.length, e⟩
theorem notLongL {n : Nat} (h : n ≤ sizeLine) : Builtin.List.listTooLong n = false := by
 unfold Builtin.List.listTooLong
 exact decide_eq_false (by omega)
end
section
variable {X : Cx}
noncomputable def rAppend : V → List V → Hp → VK → Prop := fun x vs H Q => ∃ l xs y, x = .ref l ∧ vs = [y] ∧ H l = some (.lst xs) ∧ xs.length < sizeLine ∧ Q .non (upd H l (.lst (xs ++ [y])))
theorem mt_append : MtM X "list.append" rAppend := by
 intro pins s σ H x vs v us Q I rx rv h
 obtain ⟨l, xs, y, rfl, rfl, hH, hz, q⟩ := h
 cases rx
 obtain ⟨u, rfl, ru⟩ := rv.one
 obtain ⟨z, its, n, r, hl, e⟩ := I.lstM hH
 refine call_meets F.slot_list_append ⟨_, e, rfl⟩ F.entry_list_append (F.args_list_append_2 _ _) (PySem.list_append l its.toArray n u (by rw [List.size_toArray]; omega)) ⟨e, ?_⟩
 refine ⟨.non, _, I.lset (its' := its ++ [u]) hH e (by simp) (r.append (.cons ru .nil)) ?_, rfl, q⟩
 rw [List.length_append, List.length_singleton]
 omega
noncomputable def rExtend : V → List V → Hp → VK → Prop := fun x vs H Q => ∃ l b xs zs, x = .ref l ∧ vs = [.ref b] ∧ H l = some (.lst xs) ∧ H b = some (.lst zs) ∧ xs.length + zs.length ≤ sizeLine ∧ Q .non (upd H l (.lst (xs ++ zs)))
theorem mt_extend : MtM X "list.extend" rExtend := by
 intro pins s σ H x vs v us Q I rx rv h
 obtain ⟨l, b, xs, zs, rfl, rfl, hH, hB, hz, q⟩ := h
 cases rx
 obtain ⟨u, rfl, ru⟩ := rv.one
 cases ru
 obtain ⟨z, its, n, r, hl, e⟩ := I.lstM hH
 obtain ⟨z2, its2, n2, r2, hl2, e2⟩ := I.lstM hB
 have hsz : its.toArray.size + its2.toArray.size ≤ sizeLine := by rw [List.size_toArray, List.size_toArray]; omega
 have hlong : ¬ (!its.toArray.isEmpty && Builtin.List.listTooLong (its.toArray.size + its2.toArray.size)) = true := by
  rw [notLongL hsz, Bool.and_false]
  exact Bool.false_ne_true
 refine call_meets F.slot_list_extend ⟨_, e, rfl⟩ F.entry_list_extend (F.args_list_extend_2 _ _)
  (AutoSeq1.list_extend_list_list_0 l its.toArray n b its2.toArray n2 hlong (by rw [List.size_toArray]; omega) (by omega)) ⟨e, e2, ?_⟩
 refine ⟨.non, _, I.lset (its' := its ++ its2) hH e (by simp) (r.append r2) ?_, rfl, q⟩
 rw [List.length_append]
 omega
noncomputable def rCat : R2 := fun x y H Q => ∃ l b xs zs, x = .ref l ∧ y = .ref b ∧ H l = some (.lst xs) ∧ H b = some (.lst zs) ∧ xs.length + zs.length ≤ sizeLine ∧ ∀ p, H p = none → Q (.ref p) (upd H p (.lst (xs ++ zs)))
theorem op_cat : OpR X (binaryOp .Add) rCat := by
 intro pins s σ H x y v u Q I rx ry h
 obtain ⟨l, b, xs, zs, rfl, rfl, hH, hB, hz, q⟩ := h
 cases rx
 cases ry
 obtain ⟨z, its, n, r, hl, e⟩ := I.lstM hH
 obtain ⟨z2, its2, n2, r2, hl2, e2⟩ := I.lstM hB
 refine PySem.P.add_list e e2 ?_ (by rw [List.size_toArray, List.size_toArray]; omega)
 have ea : its.toArray ++ its2.toArray = (its ++ its2).toArray := by simp
 rw [ea]
 exact ⟨.ref _, _, I.lnew (t' := s.toks) (r.append r2) (by rw [List.length_append]; omega), rfl, q _ I.fresh⟩
end
section
variable {prog : Program} {w : World} {A : Around} {E : Value → Shared → Prop} {s : Shared}
end
section
variable {X : Cx}
end
end L2
namespace Att
open PySem PySem.W PySem.Calls PyProof.Rows
theorem ints_of_wellAll {P : Params} {h : Heap} : ∀ (ns : List Int) (vs : List Value), WellAll P h vs (ns.map WData.int) → IntsAre vs ns := by
 intro ns
 induction ns with
 | nil =>
  intro vs w
  rw [List.map_nil] at w
  cases w
  exact .nil
 | cons n ns ih =>
  intro vs w
  rw [List.map_cons] at w
  cases w with
  | cons a b =>
   cases a
   exact .cons _ _ (ih _ b)
theorem script_of {l : OpenLaw} {n : Nat} (hn : l.most = some n) {P : Params} {h : Heap} {args : List WData} {vals : List Value}
  (hpre : l.row.toRowW.claim.pre args = true) (hwl : WellAll P h vals args) :
  ∃ a vs ns, vals = [Value.ref a] ∧ args = [WData.list (ns.map WData.int)] ∧ h.get? a = some { cls := .type "list", data := .seq vs.toArray } ∧ IntsAre vs ns ∧ ns.length ≤ n := by
 have hsh : WShape.hasAll [] args [.list .int] = true := (pre_splitW hpre).1
 have hc : l.pre.holds [] { args := args } = true := (pre_splitW hpre).2
 obtain ⟨d, r, rfl, h1, h2⟩ := hasAllW_cons hsh
 obtain rfl := hasAllW_nil h2
 obtain ⟨xs, rfl, h3⟩ := hasW_list h1
 obtain ⟨ns, rfl⟩ := items_int h3
 have hlen : ns.length ≤ n := by
  unfold OpenLaw.pre at hc
  have h4 : (WTm.not (.lt (.lit (.int (n : Int))) (.len (.arg 0)))).holds [] { args := [.list (ns.map .int)] } = true := by
   have h4 := (holds_andW hc).1
   rw [hn] at h4
   exact h4
  have h5 := condW_of h4 (w_not (w_lt w_lit (w_len_list (w_arg rfl))))
  rw [List.length_map] at h5
  refine Nat.le_of_not_lt fun q => ?_
  have q' : (n : Int) < ((ns.length : Nat) : Int) := by omega
  first
   | (rw [decide_eq_true q'] at h5; exact absurd h5 (by decide))
   | (simp at h5; omega)
 cases hwl with
 | cons w1 w2 =>
  cases w2
  cases w1 with
  | list ho hall => exact ⟨_, _, ns, rfl, rfl, ho, ints_of_wellAll ns _ hall, hlen⟩
theorem post_true (l : OpenLaw) (args : List WData) : l.row.toRowW.claim.post args (.bool true) args = true :=
 postW_of (r := l.row.toRowW) (X := (true == true))
  (show WShape.has [] (.bool true) .bool = true by first | rfl | decide | simp [WShape.has, WShape.arms, WShape.armsAll])
  (show (WTm.eq .res (.lit (.bool true))).value [] { args := args, res := some (.bool true), after := args } = some (.bool (true == true)) from w_eq_bool (w_res rfl) w_lit) rfl
theorem attach_call {l : OpenLaw} {n : Nat} {q : Program} {loose : List Str} {XP : (Str → Option Value) → Heap → Prop} {YP : World → Heap → Prop} {d : DefRec}
  (hn : l.most = some n) (hdf : d.params.defaults = [])
  (call : ∀ (w : World) (s₀ s₁ : Shared) (mg mb : Str → Option Value) (fa : Addr) (o : Obj) (pm cd doc : Value) (a : Addr) (vs : List Value) (ns : List Int),
   Ground q loose [] XP w s₀ mg mb s₁.heap → YP w s₁.heap →
   s₁.heap.get? fa = some o → o.data = .func (docDef d.name d.params d.body d.scope pm cd doc) → s₁.heap.CodeRec cd d.name → mg d.name = some (.ref fa) →
   s₁.heap.get? a = some { cls := .type "list", data := .seq vs.toArray } → IntsAre vs ns → ns.length ≤ n → s₁.gens = #[] →
   codeAny (model l.prog w) callerA (.call (.ref fa) ⟨[.ref a], []⟩) (fun r s' => r = .ok (.ret (.bool true)) ∧ OldK s₁.heap s'.heap ∧ s'.os = s₁.os ∧ AllBare s'.gens) s₁) :
  WalkO q loose XP YP l.row.toRowW d [] (fun f vs => PySem.call f vs) := by
 intro w s₀ s₁ mg mb G Y fa o pm cd doc dV kV ho hd hcd hD hmg hg args vals as hpre hlay hrd hwl hlo
 obtain rfl : dV = .none := Dflts.none hD hdf
 obtain rfl : kV = .none := Dflts.noKw hD
 obtain ⟨a, vs, ns, rfl, rfl, hobj, hints, hlen⟩ := script_of hn hpre hwl
 refine enter_call (codeAny_mono (call w s₀ s₁ mg mb fa o pm cd doc a vs ns G Y ho (fd_plain hd) hcd hmg hobj hints hlen hg) fun r s' hq => ?_)
 obtain ⟨rfl, h2, h3, h4⟩ := hq
 exact ⟨.inl ⟨.bool true, .bool true, [], rfl, fun _ => rfl, .bool true, post_true l _, fun _ => ⟨List.Pairwise.nil, fun _ hm => (nomatch hm)⟩⟩, h2, h3, h4⟩
section
variable {prog : Program} {w : World} {A : Around} {E : Value → Shared → Prop} {s : Shared} {K : Frag}
end
end Att
namespace L2
open PySem PySem.Spec PyProof.Rows
theorem vals_ints : ∀ {vs : List Value} {ns : List Int}, IntsAre vs ns → Vals (ns.map V.int) vs := by
 intro vs ns h
 induction h with
 | nil => exact .nil
 | cons n t h ih => exact .cons ⟨t, rfl⟩ ih
noncomputable def Only (H : Hp) : Prop := ∀ b, H b = none ∨ ∃ o xs, H b = some (.frz o (.lst xs))
theorem law_call {P : Program} {w : World} {K : PySem.W.Frag} {mg mb : Str → Option Value} {CX : CXT} {k : Nat} {fa a : Addr} {fd : FuncData} {x : Str} {sp : Sp} {s₁ : Shared} {vs : List Value} {ns : List Int}
  (KX : K.In s₁.heap) (hns : s₁.heap.Ns mainGlobals mg) (hb : s₁.heap.Ns builtinsNs mb) (hbb : ∀ x : Str, x ≠ "__name__" → mb x = bootBuiltins x) (hlim : s₁.heap.NoLimit) (hg : s₁.gens = #[])
  (ha : s₁.heap.get? a = some { cls := .type "list", data := .seq vs.toArray }) (hi : IntsAre vs ns) (hl : ns.length ≤ sizeLine) (hr : Room k callerA)
  (F : ∀ base : Heap, K.In base → base.Ns mainGlobals mg → FnOk P w K mg base CX k fa fd [x] sp) (hbind : ∀ (s : Shared) (u : Value), BindsTo s fd ⟨[u], []⟩ [(x, u)])
  (hsp : ∀ H : Hp, Only H → SqL K H a (ns.map V.int) → sp [.ref a] H (fun v _ => v = .bl true) fun _ _ _ => False)
  (hCX : ∀ H e s', CX [] H s₁ (fun _ _ _ => False) e s' → False) :
  codeAny (model P w) callerA (.call (.ref fa) ⟨[.ref a], []⟩) (fun r s' => r = .ok (.ret (.bool true)) ∧ OldK s₁.heap s'.heap ∧ s'.os = s₁.os ∧ AllBare s'.gens) s₁ := by
 have rv := vals_ints hi
 have lenV := hi.length
 -- from an abstract heap in which nothing but the script may be tracked
 have core : ∀ H : Hp, Only H → SqL K H a (ns.map V.int) → HOk P w H s₁.heap → (∀ b, H b ≠ none → b = a) → (H a ≠ none → K.lookup a = none) →
   codeAny (model P w) callerA (.call (.ref fa) ⟨[.ref a], []⟩) (fun r s' => r = .ok (.ret (.bool true)) ∧ OldK s₁.heap s'.heap ∧ s'.os = s₁.os ∧ AllBare s'.gens) s₁ := by
  intro H hO hS hok hA hK
  have base_of : ∀ {b : Addr} {o : Obj}, s₁.heap.get? b = some o → H b = none → (hidT s₁.heap H).get? b = some o := fun e n => hidT_get e n
  have noA : ∀ {b : Addr} {o : Obj} {es : Array DictEntry} {ep : Nat}, s₁.heap.get? b = some o → o.data = .dict es ep → H b = none := fun {b o es ep} e d => by
   cases q : H b with
   | none => rfl
   | some u =>
    have e' : b = a := hA b (by rw [q]; simp)
    subst e'
    rw [ha] at e; cases e
    have d' : Data.seq vs.toArray _ = Data.dict es ep := d
    cases d'
  have nsK : ∀ {b : Addr} {m : Str → Option Value}, s₁.heap.Ns b m → (hidT s₁.heap H).Ns b m := fun {b m} ⟨o, es, ep, e, d, r⟩ => ⟨o, es, ep, base_of e (noA e d), d, r⟩
  have hKb : K.In (hidT s₁.heap H) := fun b o e => base_of (KX b o e) (by
   cases q : H b with
   | none => rfl
   | some u =>
    have e' : b = a := hA b (by rw [q]; simp)
    subst e'
    rw [hK (by rw [q]; simp)] at e; cases e)
  have hM : Mod K mg (hidT s₁.heap H) := ⟨hKb, nsK hns, ⟨mb, nsK hb, hbb⟩, let ⟨mc, h1, h2⟩ := hlim; ⟨mc, nsK h1, h2⟩⟩
  have e0 : Env0 P w K mg (hidT s₁.heap H) callerA [] s₁ H := ⟨rfl, hM, fun b o e => of_hidT e, Nat.le_of_eq (hidT_size _ _), trivial, fun b hb => absurd (show b ∈ ([] : List Addr) from hb) (by simp), hok, .of_eq hg⟩
  refine codeAny_mono ((F _ hKb (nsK hns)).run callerA [] s₁ H ⟨[.ref a], []⟩ [.ref a] [.ref a] _ _ hr e0 (hbind s₁ (.ref a)) (.cons rfl .nil) (hsp H hO hS)) fun r s' h => ?_
  cases r with
  | error e => exact (hCX H e s' h).elim
  | ok fl =>
   cases fl with
   | next => exact False.elim h
   | brk => exact False.elim h
   | cont => exact False.elim h
   | ret u =>
    obtain ⟨v, H', os, bare, un, hok', r', q⟩ := h
    have q' : v = .bl true := q
    subst q'
    obtain rfl : u = Value.bool true := r'
    refine ⟨rfl, OldK.of_keep fun b o e => ?_, os, bare⟩
    cases q : H b with
    | none => exact un.keep b o e q (by intro z; exact absurd (show b ∈ ([] : List Addr) from z) (by simp)) (by simp)
    | some u =>
     rcases hO b with z | ⟨ob, xs, z⟩
     ·rw [q] at z; cases z
     ·have z2 := un.frzs b ob _ z
      obtain ⟨e1, _⟩ := hok b _ z
      obtain ⟨e2, _⟩ := hok' b _ z2
      rw [e] at e1; cases e1
      exact e2
 cases hk : K.lookup a with
 | some o =>
  -- the script is one of the module's own objects
  have e := KX a o hk
  rw [ha] at e
  cases e
  refine core (fun _ => none) (fun _ => .inl rfl) (.inr ⟨_, vs.toArray, _, hk, rfl, rfl, rfl, by rw [List.size_toArray, lenV]; exact hl, by simpa using rv⟩) (fun b u z => by have z' : (none : Option HO) = some u := z; cases z') (fun b z => absurd rfl z) fun z => absurd rfl z
 | none =>
  refine core (fun b => if b = a then some (.frz { cls := .type "list", data := .seq vs.toArray } (.lst (ns.map V.int))) else none) (fun b => ?_) (.inl (.inr ⟨{ cls := .type "list", data := .seq vs.toArray }, if_pos rfl⟩)) (fun b u z => ?_) (fun b z => ?_) fun _ => hk
  ·by_cases hb : b = a
   ·exact .inr ⟨_, _, if_pos hb⟩
   ·exact .inl (if_neg hb)
  ·by_cases hb : b = a
   ·have z' := (if_pos hb).symm.trans z
    cases z'
    subst hb
    exact ⟨ha, by rw [List.length_map]; exact hl, vs, _, rv, ha⟩
   ·have z' := (if_neg hb).symm.trans z
    cases z'
  ·by_cases hb : b = a
   ·exact hb
   ·exact absurd (if_neg hb) z
end L2
namespace L2
open PySem PySem.Spec PyProof.Rows
noncomputable abbrev KOf {K : PySem.W.Frag} {h : Heap} (_ : K.In h) : PySem.W.Frag := K
theorem walk_of {l : PySem.W.OpenLaw} {n k : Nat} {q : Program} {loose : List Str} {XP : (Str → Option Value) → Heap → Prop} {YP : World → Heap → Prop} {d : DefRec} {K : Params → PySem.W.Frag} {CX : World → CXT} {sp : World → Sp} {x : Str}
  (hn : l.most = some n) (hn2 : n ≤ sizeLine) (hdf : d.params.defaults = []) (hr : Room k callerA)
  (hY : ∀ (w : World) (h : Heap), YP w h → (K w.params).In h)
  (F : ∀ (w : World) (mg : Str → Option Value) (fa : Addr) (h : Heap), (K w.params).In h → h.Ns mainGlobals mg → mg d.name = some (.ref fa) →
   ∃ fd : FuncData, (∀ (s : Shared) (u : Value), BindsTo s fd ⟨[u], []⟩ [(x, u)]) ∧
    ∀ base : Heap, (K w.params).In base → base.Ns mainGlobals mg → FnOk l.prog w (K w.params) mg base (CX w) k fa fd [x] (sp w))
  (hsp : ∀ (w : World) (H : Hp) (a : Addr) (ns : List Int), ns.length ≤ n → Only H → SqL (K w.params) H a (ns.map V.int) → sp w [.ref a] H (fun v _ => v = .bl true) fun _ _ _ => False)
  (hCX : ∀ (w : World) (H : Hp) (s : Shared) (e : Value) (s' : Shared), CX w [] H s (fun _ _ _ => False) e s' → False) :
  PySem.W.WalkO q loose XP YP l.row.toRowW d [] (fun f vs => PySem.call f vs) := by
 refine Att.attach_call hn hdf fun w s₀ s₁ mg mb fa o pm cd doc a vs ns G Y ho hd hcd hmg hobj hints hlen hg => ?_
 have KX := hY w _ Y
 obtain ⟨fd, hb, hF⟩ := F w mg fa _ KX G.T.g hmg
 exact law_call KX G.T.g G.T.b G.T.builtins G.T.nolimit hg hobj hints (Nat.le_trans hlen hn2) hr hF hb (fun H hO hS => hsp w H a ns hlen hO hS) fun H e s' => hCX w H s₁ e s'
end L2
namespace L2
open PySem PySem.Spec PyProof.Rows
noncomputable def defArgs (s : Stmt) : Arguments := match s with
 | .FunctionDef _ a _ _ _ _ _ _ _ _ => a
 | _ => { posonlyargs := [], args := [], vararg := none, kwonlyargs := [], kw_defaults := [], kwarg := none, defaults := [] }
noncomputable def defBody (s : Stmt) : List Stmt := match s with
 | .FunctionDef _ _ b _ _ _ _ _ _ _ => b
 | _ => []
noncomputable def defScope (s : Stmt) : Scope := match s with
 | .FunctionDef _ _ _ _ _ _ sc _ _ _ => sc
 | _ => { kind := .function, names := [], isGenerator := false, isCoroutine := false }
noncomputable abbrev CX0 : CXT := fun _ _ _ _ _ _ => False
noncomputable abbrev E0 : XK := fun _ _ _ => False
theorem pass0 {X : Cx} : Passes CX0 X E0 := fun _ _ _ _ _ _ _ h => h.elim
structure Fun (K : PySem.W.Frag) (x qual : Str) (st : Stmt) (f : Addr) (fd : FuncData) : Prop where
 ex : ∃ (oc : Value) (od : Option Addr) (kV doc pm : Value) (an : Option Addr) (cdv ct : Value) (osl : Array (Option Value)),
  fd = PySem.W.fnOf x qual (defArgs st) (defBody st) (defScope st) .none kV doc pm an cdv ct ∧ K.lookup f = some ⟨oc, od, .func fd, osl⟩ ∧ PySem.W.codeIn K cdv qual = true
 kp : PySem.W.keepIn K (.ref f) = true
section
variable {P : Program} {w : World} {K : PySem.W.Frag} {mg : Str → Option Value} {base : Heap}
theorem Fun.ok {x qual : Str} {st : Stmt} {f : Addr} {fd : FuncData} {N ps : List Str} {k : Nat} {sp : Sp} (F : Fun K x qual st f fd) (S : FnScope N ps (defScope st)) (len : ∀ vs H Q E, sp vs H Q E → vs.length = ps.length)
  (hbody : ∀ (cdv : Value) (A : Around) (outer : List Env) (s : Shared) (H : Hp) (vs : List V) (Q : VK) (E : XK), Room k (A.deeper (envOfC qual (defScope st) s.heap.objs.size f cdv)) → sp vs H Q E →
   ∃ t, PSs (cxOf CX0 P w K mg base N qual (defScope st) f cdv A outer s H E).nox (defBody st) t ∧ t { nx := fun _ H' => Q .non H', rt := Q } (start N vs) H) : FnOk P w K mg base CX0 (k + 1) f fd ps sp := by
 obtain ⟨oc, od, kV, doc, pm, an, cdv, ct, osl, rfl, lk, hcd⟩ := F.ex
 refine fn_of lk hcd S len fun A outer s H vs Q E hr hsp => ?_
 obtain ⟨t, h, q⟩ := hbody cdv A outer s H vs Q E hr hsp
 exact ⟨t, h.nox, q⟩
theorem Fun.binds {x qual : Str} {st : Stmt} {f : Addr} {fd : FuncData} {ps : List Str} (F : Fun K x qual st f fd)
  (h : ∀ (kV doc pm : Value) (an : Option Addr) (cdv ct : Value) (us : List Value), us.length = ps.length → bindArgs (PySem.W.fnOf x qual (defArgs st) (defBody st) (defScope st) .none kV doc pm an cdv ct) ⟨us, []⟩ = pure (ps.zip us)) : Binds K fd ps [] := by
 obtain ⟨oc, od, kV, doc, pm, an, cdv, ct, osl, rfl, lk, hcd⟩ := F.ex
 exact .all (h kV doc pm an cdv ct)
theorem fun_mk {x qual : Str} {st : Stmt} {f : Addr} {oc : Value} {od an : Option Addr} {osl : Array (Option Value)} {kV doc pm cdv ct : Value} (l : K.lookup f = some ⟨oc, od, .func (PySem.W.fnOf x qual (defArgs st) (defBody st) (defScope st) .none kV doc pm an cdv ct), osl⟩)
  (c : PySem.W.codeIn K cdv qual = true) (k : PySem.W.keepIn K (.ref f) = true) : Fun K x qual st f (PySem.W.fnOf x qual (defArgs st) (defBody st) (defScope st) .none kV doc pm an cdv ct) := ⟨⟨oc, od, kV, doc, pm, an, cdv, ct, osl, rfl, l, c⟩, k⟩
end
theorem small1000 {n : Nat} (h : n ≤ 1000) : n < sizeLine := Nat.lt_of_le_of_lt h (by decide)
section
variable {X : Cx}
end
end L2
set_option maxHeartbeats 4000000
namespace DD
open PySem L2
noncomputable def NT : HO → Prop
 | .tup _ => False
 | _ => True
inductive D where
 | hole | cell | node (a : Addr) (vs : List V) | pin (a : Addr) (o : {o : HO // NT o})
 | non | bl (b : Bool) | int (i : Int) | str (x : Str) | ty (n : String) | cls (a : Addr)
 | lst (own : Bool) (xs : List D)
 | tup (xs : List D)
 | obj (own : Bool) (C : Addr) (ks : List Str) (xs : List D)
 | dct (own : Bool) (ks : List (List Key)) (xs : List D)
noncomputable def FL (K : PySem.W.Frag) (F : Addr → Prop) (H : Hp) (a : Addr) (vs : List V) : Prop := (F a ∧ Rd H a (.lst vs)) ∨ ∀ H', SqL K H' a vs
noncomputable def FT (K : PySem.W.Frag) (F : Addr → Prop) (H : Hp) (a : Addr) (vs : List V) (L : List Addr) : Prop := (F a ∧ H a = some (.tup vs)) ∨ ((∀ H' : Hp, False) ∧ L = [])
mutual
noncomputable def Ow (K : PySem.W.Frag) (F : Addr → Prop) (H : Hp) : D → V → List Addr → Prop
 | .hole, _, L => L = []
 | .cell, v, L => ∃ (a : Addr) (o : {o : HO // NT o}), v = .ref a ∧ H a = some o.1 ∧ L = [a]
 | .node a vs, v, L => v = .ref a ∧ H a = some (.lst vs) ∧ L = [a]
 | .pin a o, v, L => v = .ref a ∧ H a = some o.1 ∧ L = [a]
 | .non, v, L => v = .non ∧ L = []
 | .bl b, v, L => v = .bl b ∧ L = []
 | .int i, v, L => v = .int i ∧ L = []
 | .str x, v, L => v = .str x ∧ L = []
 | .ty x, v, L => v = .ty x ∧ L = []
 | .cls x, v, L => v = .ref x ∧ L = []
 | .lst true xs, v, L => ∃ a vs L', v = .ref a ∧ H a = some (.lst vs) ∧ OwL K F H xs vs L' ∧ L = a :: L'
 | .lst false xs, v, L => ∃ a vs, v = .ref a ∧ FL K F H a vs ∧ OwL K F H xs vs [] ∧ L = []
 | .tup xs, v, L => ∃ a vs, v = .ref a ∧ FT K F H a vs L ∧ OwL K F H xs vs L
 | .obj true C ks xs, v, L => ∃ a dx vs L', v = .ref a ∧ H a = some (.ins C dx (ks.zip vs)) ∧ ks.length = vs.length ∧ OwL K F H xs vs L' ∧ L = a :: L'
 | .obj false C ks xs, v, L => ∃ a dx vs, v = .ref a ∧ H a = some (.ins C dx (ks.zip vs)) ∧ F a ∧ ks.length = vs.length ∧ OwL K F H xs vs [] ∧ L = []
 | .dct true ks xs, v, L => ∃ a vs L', v = .ref a ∧ H a = some (.dT (ks.zip vs)) ∧ ks.length = vs.length ∧ OwL K F H xs vs L' ∧ L = a :: L'
 | .dct false ks xs, v, L => ∃ a vs, v = .ref a ∧ H a = some (.dT (ks.zip vs)) ∧ F a ∧ ks.length = vs.length ∧ OwL K F H xs vs [] ∧ L = []
noncomputable def OwL (K : PySem.W.Frag) (F : Addr → Prop) (H : Hp) : List D → List V → List Addr → Prop
 | [], vs, L => vs = [] ∧ L = []
 | x :: xs, vs, L => ∃ v ws L1 L2, vs = v :: ws ∧ Ow K F H x v L1 ∧ OwL K F H xs ws L2 ∧ L = L1 ++ L2
end
mutual
noncomputable def D.fz : D → D
 | .lst _ xs => .lst false (D.fzL xs)
 | .tup xs => .tup (D.fzL xs)
 | .obj _ C ks xs => .obj false C ks (D.fzL xs)
 | .dct _ ks xs => .dct false ks (D.fzL xs)
 | .cell => .hole
 | .node _ _ => .hole
 | .pin _ _ => .hole
 | d => d
noncomputable def D.fzL : List D → List D
 | [] => []
 | x :: xs => D.fz x :: D.fzL xs
end
section
variable {K : PySem.W.Frag} {F F' : Addr → Prop} {H H' : Hp}
mutual
theorem Ow.dom : ∀ {d : D} {v : V} {L : List Addr}, Ow K F H d v L → ∀ a ∈ L, ∃ o, H a = some o
 | .hole, _, _, h, a, ha => by simp only [Ow] at h; subst h; cases ha
 | .cell, _, _, h, a, ha => by simp only [Ow] at h; obtain ⟨b, o, rfl, e, rfl⟩ := h; rw [List.mem_singleton.mp ha]; exact ⟨o, e⟩
 | .node _ _, _, _, h, a, ha => by simp only [Ow] at h; obtain ⟨rfl, e, rfl⟩ := h; rw [List.mem_singleton.mp ha]; exact ⟨_, e⟩
 | .pin _ _, _, _, h, a, ha => by simp only [Ow] at h; obtain ⟨rfl, e, rfl⟩ := h; rw [List.mem_singleton.mp ha]; exact ⟨_, e⟩
 | .non, _, _, h, a, ha => by simp only [Ow] at h; rw [h.2] at ha; cases ha
 | .bl _, _, _, h, a, ha => by simp only [Ow] at h; rw [h.2] at ha; cases ha
 | .int _, _, _, h, a, ha => by simp only [Ow] at h; rw [h.2] at ha; cases ha
 | .str _, _, _, h, a, ha => by simp only [Ow] at h; rw [h.2] at ha; cases ha
 | .ty _, _, _, h, a, ha => by simp only [Ow] at h; rw [h.2] at ha; cases ha
 | .cls _, _, _, h, a, ha => by simp only [Ow] at h; rw [h.2] at ha; cases ha
 | .lst true xs, _, _, h, a, ha => by
  simp only [Ow] at h
  obtain ⟨b, vs, L', rfl, e, r, rfl⟩ := h
  rcases List.mem_cons.mp ha with rfl | ha
  ·exact ⟨_, e⟩
  ·exact OwL.dom r a ha
 | .lst false xs, _, _, h, a, ha => by simp only [Ow] at h; obtain ⟨_, _, _, _, _, rfl⟩ := h; cases ha
 | .tup xs, _, _, h, a, ha => by simp only [Ow] at h; obtain ⟨_, _, _, _, r⟩ := h; exact OwL.dom r a ha
 | .obj true C ks xs, _, _, h, a, ha => by
  simp only [Ow] at h
  obtain ⟨b, dx, vs, L', rfl, e, _, r, rfl⟩ := h
  rcases List.mem_cons.mp ha with rfl | ha
  ·exact ⟨_, e⟩
  ·exact OwL.dom r a ha
 | .obj false C ks xs, _, _, h, a, ha => by simp only [Ow] at h; obtain ⟨_, _, _, _, _, _, _, _, rfl⟩ := h; cases ha
 | .dct true ks xs, _, _, h, a, ha => by
  simp only [Ow] at h
  obtain ⟨b, vs, L', rfl, e, _, r, rfl⟩ := h
  rcases List.mem_cons.mp ha with rfl | ha
  ·exact ⟨_, e⟩
  ·exact OwL.dom r a ha
 | .dct false ks xs, _, _, h, a, ha => by simp only [Ow] at h; obtain ⟨_, _, _, _, _, _, _, rfl⟩ := h; cases ha
theorem OwL.dom : ∀ {xs : List D} {vs : List V} {L : List Addr}, OwL K F H xs vs L → ∀ a ∈ L, ∃ o, H a = some o
 | [], _, _, h, a, ha => by simp only [OwL] at h; rw [h.2] at ha; cases ha
 | x :: xs, _, _, h, a, ha => by
  simp only [OwL] at h
  obtain ⟨v, ws, L1, L2, rfl, h1, h2, rfl⟩ := h
  rcases List.mem_append.mp ha with ha | ha
  ·exact Ow.dom h1 a ha
  ·exact OwL.dom h2 a ha
end
noncomputable def Ext (F : Addr → Prop) (H : Hp) (F' : Addr → Prop) (H' : Hp) : Prop := ∀ a, F a → F' a ∧ H' a = H a
theorem Ext.refl : Ext F H F H := fun _ h => ⟨h, rfl⟩
theorem Ext.trans {F'' : Addr → Prop} {H'' : Hp} (a : Ext F H F' H') (b : Ext F' H' F'' H'') : Ext F H F'' H'' := fun x h =>
 ⟨(b x (a x h).1).1, ((b x (a x h).1).2).trans (a x h).2⟩
theorem Rd.eq {a : Addr} {u : HO} (h : Rd H a u) (e : H' a = H a) : Rd H' a u := by
 rcases h with h | ⟨o, h⟩
 ·exact .inl (e.trans h)
 ·exact .inr ⟨o, e.trans h⟩
theorem FL.ext {a : Addr} {vs : List V} (h : FL K F H a vs) (x : Ext F H F' H') : FL K F' H' a vs := by
 rcases h with ⟨f, r⟩ | h
 ·exact .inl ⟨(x a f).1, Rd.eq r (x a f).2⟩
 ·exact .inr h
theorem FT.ext {a : Addr} {vs : List V} {L : List Addr} (h : FT K F H a vs L) (x : Ext F H F' H') : FT K F' H' a vs L := by
 rcases h with ⟨f, r⟩ | h
 ·exact .inl ⟨(x a f).1, (x a f).2.trans r⟩
 ·exact .inr h
theorem FT.nil {a : Addr} {vs : List V} {L : List Addr} (h : FT K F H a vs L) : FT K F H a vs [] := by
 rcases h with h | h
 ·exact .inl h
 ·exact .inr ⟨h.1, rfl⟩
theorem FL.sq {a : Addr} {vs : List V} (h : FL K F H a vs) : SqL K H a vs := by
 rcases h with ⟨_, r⟩ | h
 ·exact .inl r
 ·exact h H
theorem FT.sq {a : Addr} {vs : List V} {L : List Addr} (h : FT K F H a vs L) : SqT K H a vs := by
 rcases h with ⟨_, r⟩ | h
 ·exact .inl (.inl r)
 ·exact (h.1 H).elim
mutual
theorem Ow.mono (x : Ext F H F' H') : ∀ {d : D} {v : V} {L : List Addr}, Ow K F H d v L → (∀ a ∈ L, H' a = H a) → Ow K F' H' d v L
 | .hole, _, _, h, _ => by simp only [Ow] at h ⊢; exact h
 | .cell, _, _, h, k => by simp only [Ow] at h ⊢; obtain ⟨b, o, rfl, e, rfl⟩ := h; exact ⟨b, o, rfl, (k b (by simp)).trans e, rfl⟩
 | .node _ _, _, _, h, k => by simp only [Ow] at h ⊢; obtain ⟨rfl, e, rfl⟩ := h; exact ⟨rfl, (k _ (by simp)).trans e, rfl⟩
 | .pin _ _, _, _, h, k => by simp only [Ow] at h ⊢; obtain ⟨rfl, e, rfl⟩ := h; exact ⟨rfl, (k _ (by simp)).trans e, rfl⟩
 | .non, _, _, h, _ => by simp only [Ow] at h ⊢; exact h
 | .bl _, _, _, h, _ => by simp only [Ow] at h ⊢; exact h
 | .int _, _, _, h, _ => by simp only [Ow] at h ⊢; exact h
 | .str _, _, _, h, _ => by simp only [Ow] at h ⊢; exact h
 | .ty _, _, _, h, _ => by simp only [Ow] at h ⊢; exact h
 | .cls _, _, _, h, _ => by simp only [Ow] at h ⊢; exact h
 | .lst true xs, _, _, h, k => by
  simp only [Ow] at h ⊢
  obtain ⟨b, vs, L', rfl, e, r, rfl⟩ := h
  exact ⟨b, vs, L', rfl, (k b (by simp)).trans e, OwL.mono x r fun a ha => k a (by simp [ha]), rfl⟩
 | .lst false xs, _, _, h, k => by
  simp only [Ow] at h ⊢
  obtain ⟨b, vs, rfl, e, r, rfl⟩ := h
  exact ⟨b, vs, rfl, e.ext x, OwL.mono x r (fun a ha => by cases ha), rfl⟩
 | .tup xs, _, _, h, k => by
  simp only [Ow] at h ⊢
  obtain ⟨b, vs, rfl, e, r⟩ := h
  exact ⟨b, vs, rfl, e.ext x, OwL.mono x r k⟩
 | .obj true C ks xs, _, _, h, k => by
  simp only [Ow] at h ⊢
  obtain ⟨b, dx, vs, L', rfl, e, el, r, rfl⟩ := h
  exact ⟨b, dx, vs, L', rfl, (k b (by simp)).trans e, el, OwL.mono x r fun a ha => k a (by simp [ha]), rfl⟩
 | .obj false C ks xs, _, _, h, k => by
  simp only [Ow] at h ⊢
  obtain ⟨b, dx, vs, rfl, e, f, el, r, rfl⟩ := h
  exact ⟨b, dx, vs, rfl, (x b f).2.trans e, (x b f).1, el, OwL.mono x r (fun a ha => by cases ha), rfl⟩
 | .dct true ks xs, _, _, h, k => by
  simp only [Ow] at h ⊢
  obtain ⟨b, vs, L', rfl, e, el, r, rfl⟩ := h
  exact ⟨b, vs, L', rfl, (k b (by simp)).trans e, el, OwL.mono x r fun a ha => k a (by simp [ha]), rfl⟩
 | .dct false ks xs, _, _, h, k => by
  simp only [Ow] at h ⊢
  obtain ⟨b, vs, rfl, e, f, el, r, rfl⟩ := h
  exact ⟨b, vs, rfl, (x b f).2.trans e, (x b f).1, el, OwL.mono x r (fun a ha => by cases ha), rfl⟩
theorem OwL.mono (x : Ext F H F' H') : ∀ {xs : List D} {vs : List V} {L : List Addr}, OwL K F H xs vs L → (∀ a ∈ L, H' a = H a) → OwL K F' H' xs vs L
 | [], _, _, h, _ => by simp only [OwL] at h ⊢; exact h
 | y :: xs, _, _, h, k => by
  simp only [OwL] at h ⊢
  obtain ⟨v, ws, L1, L2, rfl, h1, h2, rfl⟩ := h
  exact ⟨v, ws, L1, L2, rfl, Ow.mono x h1 fun a ha => k a (by simp [ha]), OwL.mono x h2 fun a ha => k a (by simp [ha]), rfl⟩
end
mutual
theorem Ow.fz (fs : ∀ a, F a → F' a) : ∀ {d : D} {v : V} {L : List Addr}, Ow K F H d v L → (∀ a ∈ L, F' a) → Ow K F' H d.fz v []
 | .hole, _, _, h, _ => by simp only [Ow, D.fz] at h ⊢
 | .cell, _, _, h, k => by simp only [Ow, D.fz] at h ⊢
 | .node _ _, _, _, h, k => by simp only [Ow, D.fz] at h ⊢
 | .pin _ _, _, _, h, k => by simp only [Ow, D.fz] at h ⊢
 | .non, _, _, h, _ => by simp only [Ow, D.fz] at h ⊢; exact ⟨h.1, trivial⟩
 | .bl _, _, _, h, _ => by simp only [Ow, D.fz] at h ⊢; exact ⟨h.1, trivial⟩
 | .int _, _, _, h, _ => by simp only [Ow, D.fz] at h ⊢; exact ⟨h.1, trivial⟩
 | .str _, _, _, h, _ => by simp only [Ow, D.fz] at h ⊢; exact ⟨h.1, trivial⟩
 | .ty _, _, _, h, _ => by simp only [Ow, D.fz] at h ⊢; exact ⟨h.1, trivial⟩
 | .cls _, _, _, h, _ => by simp only [Ow, D.fz] at h ⊢; exact ⟨h.1, trivial⟩
 | .lst true xs, _, _, h, k => by
  simp only [Ow, D.fz] at h ⊢
  obtain ⟨b, vs, L', rfl, e, r, rfl⟩ := h
  exact ⟨b, vs, rfl, .inl ⟨k b (by simp), .inl e⟩, OwL.fz fs r fun a ha => k a (by simp [ha]), trivial⟩
 | .lst false xs, _, _, h, k => by
  simp only [Ow, D.fz] at h ⊢
  obtain ⟨b, vs, rfl, e, r, rfl⟩ := h
  exact ⟨b, vs, rfl, e.ext (fun a f => ⟨fs a f, rfl⟩), OwL.fz fs r (fun a ha => by cases ha), trivial⟩
 | .tup xs, _, _, h, k => by
  simp only [Ow, D.fz] at h ⊢
  obtain ⟨b, vs, rfl, e, r⟩ := h
  exact ⟨b, vs, rfl, (e.ext (fun a f => ⟨fs a f, rfl⟩)).nil, OwL.fz fs r k⟩
 | .obj true C ks xs, _, _, h, k => by
  simp only [Ow, D.fz] at h ⊢
  obtain ⟨b, dx, vs, L', rfl, e, el, r, rfl⟩ := h
  exact ⟨b, dx, vs, rfl, e, k b (by simp), el, OwL.fz fs r fun a ha => k a (by simp [ha]), trivial⟩
 | .obj false C ks xs, _, _, h, k => by
  simp only [Ow, D.fz] at h ⊢
  obtain ⟨b, dx, vs, rfl, e, f, el, r, rfl⟩ := h
  exact ⟨b, dx, vs, rfl, e, fs b f, el, OwL.fz fs r (fun a ha => by cases ha), trivial⟩
 | .dct true ks xs, _, _, h, k => by
  simp only [Ow, D.fz] at h ⊢
  obtain ⟨b, vs, L', rfl, e, el, r, rfl⟩ := h
  exact ⟨b, vs, rfl, e, k b (by simp), el, OwL.fz fs r fun a ha => k a (by simp [ha]), trivial⟩
 | .dct false ks xs, _, _, h, k => by
  simp only [Ow, D.fz] at h ⊢
  obtain ⟨b, vs, rfl, e, f, el, r, rfl⟩ := h
  exact ⟨b, vs, rfl, e, fs b f, el, OwL.fz fs r (fun a ha => by cases ha), trivial⟩
theorem OwL.fz (fs : ∀ a, F a → F' a) : ∀ {xs : List D} {vs : List V} {L : List Addr}, OwL K F H xs vs L → (∀ a ∈ L, F' a) → OwL K F' H (D.fzL xs) vs []
 | [], _, _, h, _ => by simp only [OwL, D.fzL] at h ⊢; exact ⟨h.1, trivial⟩
 | y :: xs, _, _, h, k => by
  simp only [OwL, D.fzL] at h ⊢
  obtain ⟨v, ws, L1, L2, rfl, h1, h2, rfl⟩ := h
  exact ⟨v, ws, [], [], rfl, Ow.fz fs h1 fun a ha => k a (by simp [ha]), OwL.fz fs h2 fun a ha => k a (by simp [ha]), rfl⟩
end
noncomputable abbrev Ro := List (D × V)
noncomputable def OwP (K : PySem.W.Frag) (F : Addr → Prop) (H : Hp) : Ro → List Addr → Prop
 | [], L => L = []
 | (d, v) :: R, L => ∃ L1 L2, Ow K F H d v L1 ∧ OwP K F H R L2 ∧ L = L1 ++ L2
theorem OwP.dom : ∀ {R : Ro} {L : List Addr}, OwP K F H R L → ∀ a ∈ L, ∃ o, H a = some o
 | [], _, h, a, ha => by cases h; cases ha
 | (d, v) :: R, _, ⟨L1, L2, h1, h2, e⟩, a, ha => by
  subst e
  rcases List.mem_append.mp ha with ha | ha
  ·exact h1.dom a ha
  ·exact OwP.dom h2 a ha
theorem OwP.mono (x : Ext F H F' H') : ∀ {R : Ro} {L : List Addr}, OwP K F H R L → (∀ a ∈ L, H' a = H a) → OwP K F' H' R L
 | [], _, h, _ => h
 | (d, v) :: R, _, ⟨L1, L2, h1, h2, e⟩, k => ⟨L1, L2, h1.mono x fun a ha => k a (by simp [e, ha]), OwP.mono x h2 fun a ha => k a (by simp [e, ha]), e⟩
theorem OwP.append : ∀ {R S : Ro} {L M : List Addr}, OwP K F H R L → OwP K F H S M → OwP K F H (R ++ S) (L ++ M)
 | [], _, _, _, h, k => by cases h; exact k
 | (d, v) :: R, _, _, _, ⟨L1, L2, h1, h2, e⟩, k => ⟨L1, L2 ++ _, h1, OwP.append h2 k, by rw [e, List.append_assoc]⟩
theorem OwP.split : ∀ {R S : Ro} {N : List Addr}, OwP K F H (R ++ S) N → ∃ L M, N = L ++ M ∧ OwP K F H R L ∧ OwP K F H S M
 | [], _, N, h => ⟨[], N, rfl, rfl, h⟩
 | (d, v) :: R, _, _, ⟨L1, L2, h1, h2, e⟩ => by
  obtain ⟨L, M, e2, a, b⟩ := OwP.split h2
  exact ⟨L1 ++ L, M, by rw [e, e2, List.append_assoc], ⟨L1, L, h1, a, rfl⟩, b⟩
theorem OwP.perm {R S : Ro} (p : R.Perm S) : ∀ {L : List Addr}, OwP K F H R L → ∃ M, L.Perm M ∧ OwP K F H S M := by
 induction p with
 | nil => intro L h; exact ⟨L, .refl _, h⟩
 | cons x _ ih =>
  rintro L ⟨L1, L2, h1, h2, e⟩
  obtain ⟨M, pm, h3⟩ := ih h2
  subst e
  exact ⟨L1 ++ M, pm.append_left L1, L1, M, h1, h3, rfl⟩
 | swap x y l =>
  rintro L ⟨L1, L2, h1, ⟨L3, L4, h3, h4, e2⟩, e⟩
  subst e; subst e2
  refine ⟨L3 ++ (L1 ++ L4), ?_, L3, L1 ++ L4, h3, ⟨L1, L4, h1, h4, rfl⟩, rfl⟩
  rw [← List.append_assoc, ← List.append_assoc]
  exact List.perm_append_comm.append_right L4
 | trans _ _ ih1 ih2 =>
  intro L h
  obtain ⟨M, p1, h1⟩ := ih1 h
  obtain ⟨N, p2, h2⟩ := ih2 h1
  exact ⟨N, p1.trans p2, h2⟩
theorem OwL.toP : ∀ {xs : List D} {vs : List V} {L : List Addr}, OwL K F H xs vs L → xs.length = vs.length ∧ OwP K F H (xs.zip vs) L
 | [], _, _, h => by simp only [OwL] at h; obtain ⟨rfl, rfl⟩ := h; exact ⟨rfl, rfl⟩
 | x :: xs, _, _, h => by
  simp only [OwL] at h
  obtain ⟨v, ws, L1, L2, rfl, h1, h2, rfl⟩ := h
  have r := h2.toP
  exact ⟨by simp [r.1], L1, L2, h1, r.2, rfl⟩
theorem OwL.ofP : ∀ {xs : List D} {vs : List V} {L : List Addr}, xs.length = vs.length → OwP K F H (xs.zip vs) L → OwL K F H xs vs L
 | [], [], _, _, h => by simp only [OwL]; exact ⟨trivial, h⟩
 | x :: xs, v :: vs, _, e, h => by
  obtain ⟨L1, L2, h1, h2, e2⟩ := h
  simp only [OwL]
  exact ⟨v, vs, L1, L2, rfl, h1, OwL.ofP (by simpa using e) h2, e2⟩
structure G (K : PySem.W.Frag) (F : Addr → Prop) (H : Hp) (R : Ro) : Prop where
 own : ∃ L, OwP K F H R L ∧ L.Nodup ∧ ∀ a ∈ L, ¬ F a
 dom : ∀ a, F a → ∃ o, H a = some o
variable {R S : Ro} {d : D} {v : V}
theorem G.perm (g : G K F H R) (p : R.Perm S) : G K F H S := by
 obtain ⟨L, h, n, f⟩ := g.own
 obtain ⟨M, pm, h'⟩ := h.perm p
 exact ⟨⟨M, h', pm.nodup_iff.mp n, fun a ha => f a (pm.mem_iff.mpr ha)⟩, g.dom⟩
theorem G.pop (g : G K F H ((d, v) :: R)) : G K F H R := by
 obtain ⟨L, ⟨L1, L2, h1, h2, rfl⟩, n, f⟩ := g.own
 exact ⟨⟨L2, h2, (List.nodup_append.mp n).2.1, fun a ha => f a (by simp [ha])⟩, g.dom⟩
theorem G.popN (g : G K F H (S ++ R)) : G K F H R := by
 induction S with
 | nil => exact g
 | cons x S ih => exact ih (G.pop (d := x.1) (v := x.2) g)
noncomputable def Bor (K : PySem.W.Frag) (F : Addr → Prop) (H : Hp) (d : D) (v : V) : Prop := ∃ L, Ow K F H d v L
theorem G.bor (g : G K F H R) (h : (d, v) ∈ R) : Bor K F H d v := by
 obtain ⟨A, B, rfl⟩ := List.append_of_mem h
 obtain ⟨L, ⟨L1, L2, h1, h2, rfl⟩, n, f⟩ := (g.popN).own
 exact ⟨L1, h1⟩
theorem G.push (g : G K F H R) (h : Ow K F H d v []) : G K F H ((d, v) :: R) := by
 obtain ⟨L, h1, n, f⟩ := g.own
 exact ⟨⟨L, ⟨[], L, h, h1, rfl⟩, n, f⟩, g.dom⟩
theorem G.alloc {p : Addr} {o : HO} (g : G K F H R) (hp : H p = none) (hn : autoParam (NT o) Ax5._auto_1) : G K F (upd H p o) ((.cell, .ref p) :: R) ∧ Ext F H F (upd H p o) := by
 obtain ⟨L, h1, n, f⟩ := g.own
 have nF : ∀ a, F a → a ≠ p := fun a fa e => by obtain ⟨o, h⟩ := g.dom a fa; rw [e, hp] at h; cases h
 have nL : ∀ a ∈ L, a ≠ p := fun a ha e => by obtain ⟨o, h⟩ := h1.dom a ha; rw [e, hp] at h; cases h
 have x : Ext F H F (upd H p o) := fun a fa => ⟨fa, upd_ne (nF a fa)⟩
 refine ⟨⟨⟨p :: L, ⟨[p], L, ?_, h1.mono x fun a ha => upd_ne (nL a ha), rfl⟩, List.nodup_cons.mpr ⟨fun h => nL p h rfl, n⟩, fun a ha fa => ?_⟩, fun a fa => ?_⟩, x⟩
 ·simp only [Ow]; exact ⟨p, ⟨o, hn⟩, rfl, upd_same, rfl⟩
 ·rcases List.mem_cons.mp ha with rfl | ha
  ·exact nF _ fa rfl
  ·exact f a ha fa
 ·rw [upd_ne (nF a fa)]; exact g.dom a fa
theorem G.write {a : Addr} {o : HO} (g : G K F H ((.cell, .ref a) :: R)) (hn : autoParam (NT o) Ax5._auto_1) : G K F (upd H a o) ((.cell, .ref a) :: R) ∧ Ext F H F (upd H a o) := by
 obtain ⟨L, ⟨L1, L2, h1, h2, rfl⟩, n, f⟩ := g.own
 simp only [Ow] at h1
 obtain ⟨b, ob, e, hb, rfl⟩ := h1
 cases e
 have nF : ∀ c, F c → c ≠ a := fun c fc e => f a (by simp) (e ▸ fc)
 have nL : ∀ c ∈ L2, c ≠ a := fun c hc e => (List.nodup_cons.mp n).1 (e ▸ hc)
 have x : Ext F H F (upd H a o) := fun c fc => ⟨fc, upd_ne (nF c fc)⟩
 refine ⟨⟨⟨[a] ++ L2, ⟨[a], L2, ?_, h2.mono x fun c hc => upd_ne (nL c hc), rfl⟩, n, f⟩, fun c fc => ?_⟩, x⟩
 ·simp only [Ow]; exact ⟨a, ⟨o, hn⟩, rfl, upd_same, rfl⟩
 ·rw [upd_ne (nF c fc)]; exact g.dom c fc
theorem G.openL {xs : List D} (g : G K F H ((.lst true xs, v) :: R)) : ∃ a vs, v = .ref a ∧ H a = some (.lst vs) ∧ xs.length = vs.length ∧ G K F H ((.cell, .ref a) :: (xs.zip vs ++ R)) := by
 obtain ⟨L, ⟨L1, L2, h1, h2, rfl⟩, n, f⟩ := g.own
 simp only [Ow] at h1
 obtain ⟨a, vs, L', rfl, e, r, rfl⟩ := h1
 refine ⟨a, vs, rfl, e, r.toP.1, ⟨a :: L' ++ L2, ⟨[a], L' ++ L2, ?_, r.toP.2.append h2, rfl⟩, n, f⟩, g.dom⟩
 simp only [Ow]; exact ⟨a, ⟨.lst vs, trivial⟩, rfl, e, rfl⟩
theorem G.formL {xs : List D} {vs : List V} {a : Addr} (g : G K F H ((.cell, .ref a) :: (xs.zip vs ++ R))) (hl : xs.length = vs.length) (e : H a = some (.lst vs)) : G K F H ((.lst true xs, .ref a) :: R) := by
 obtain ⟨L, ⟨L1, L2, h1, h2, rfl⟩, n, f⟩ := g.own
 simp only [Ow] at h1
 obtain ⟨b, ob, e', hb, rfl⟩ := h1
 cases e'
 obtain ⟨M, N, rfl, hm, hn⟩ := h2.split
 refine ⟨⟨(a :: M) ++ N, ⟨a :: M, N, ?_, hn, rfl⟩, by simpa using n, fun c hc => f c (by simpa using hc)⟩, g.dom⟩
 simp only [Ow]
 exact ⟨a, vs, M, rfl, e, OwL.ofP hl hm, rfl⟩
theorem G.openN {xs : List D} (g : G K F H ((.lst true xs, v) :: R)) : ∃ a vs, v = .ref a ∧ H a = some (.lst vs) ∧ xs.length = vs.length ∧ G K F H ((.node a vs, .ref a) :: (xs.zip vs ++ R)) := by
 obtain ⟨L, ⟨L1, L2, h1, h2, rfl⟩, n, f⟩ := g.own
 simp only [Ow] at h1
 obtain ⟨a, vs, L', rfl, e, r, rfl⟩ := h1
 refine ⟨a, vs, rfl, e, r.toP.1, ⟨a :: L' ++ L2, ⟨[a], L' ++ L2, ?_, r.toP.2.append h2, rfl⟩, n, f⟩, g.dom⟩
 simp only [Ow]; exact ⟨trivial, e, trivial⟩
theorem G.formN {xs : List D} {vs : List V} {a : Addr} (g : G K F H ((.node a vs, .ref a) :: (xs.zip vs ++ R))) (hl : xs.length = vs.length) : H a = some (.lst vs) ∧ G K F H ((.lst true xs, .ref a) :: R) := by
 obtain ⟨L, ⟨L1, L2, h1, h2, rfl⟩, n, f⟩ := g.own
 simp only [Ow] at h1
 obtain ⟨_, e, rfl⟩ := h1
 obtain ⟨M, N, rfl, hm, hn⟩ := h2.split
 refine ⟨e, ⟨⟨(a :: M) ++ N, ⟨a :: M, N, ?_, hn, rfl⟩, by simpa using n, fun c hc => f c (by simpa using hc)⟩, g.dom⟩⟩
 simp only [Ow]
 exact ⟨a, vs, M, rfl, e, OwL.ofP hl hm, rfl⟩
theorem G.nodeAt {vs : List V} {a : Addr} (g : G K F H R) (h : (D.node a vs, V.ref a) ∈ R) : H a = some (.lst vs) := by
 obtain ⟨L, o⟩ : ∃ L, Ow K F H (.node a vs) (.ref a) L := by
  obtain ⟨A, B, rfl⟩ := List.append_of_mem h
  obtain ⟨L, ⟨L1, L2, h1, h2, rfl⟩, n, f⟩ := (g.popN).own
  exact ⟨L1, h1⟩
 simp only [Ow] at o
 exact o.2.1
theorem G.openT {xs : List D} (g : G K F H ((.tup xs, v) :: R)) : ∃ a vs, v = .ref a ∧ FT K F H a vs [] ∧ xs.length = vs.length ∧ G K F H (xs.zip vs ++ R) := by
 obtain ⟨L, ⟨L1, L2, h1, h2, rfl⟩, n, f⟩ := g.own
 simp only [Ow] at h1
 obtain ⟨a, vs, rfl, e, r⟩ := h1
 exact ⟨a, vs, rfl, e.nil, r.toP.1, ⟨L1 ++ L2, r.toP.2.append h2, n, f⟩, g.dom⟩
theorem G.formT {xs : List D} {vs : List V} {a : Addr} (g : G K F H (xs.zip vs ++ R)) (hl : xs.length = vs.length) (e : F a ∧ H a = some (.tup vs)) : G K F H ((.tup xs, .ref a) :: R) := by
 obtain ⟨L, h, n, f⟩ := g.own
 obtain ⟨M, N, rfl, hm, hn⟩ := h.split
 refine ⟨⟨M ++ N, ⟨M, N, ?_, hn, rfl⟩, n, f⟩, g.dom⟩
 simp only [Ow]
 exact ⟨a, vs, rfl, .inl e, OwL.ofP hl hm⟩
theorem G.freeze (g : G K F H ((d, v) :: R)) : ∃ F', Ext F H F' H ∧ G K F' H ((d.fz, v) :: R) ∧ Ow K F' H d.fz v [] := by
 obtain ⟨L, ⟨L1, L2, h1, h2, rfl⟩, n, f⟩ := g.own
 have x : Ext F H (fun a => F a ∨ a ∈ L1) H := fun a h => ⟨.inl h, rfl⟩
 have z : Ow K (fun a => F a ∨ a ∈ L1) H d.fz v [] := h1.fz (fun a h => .inl h) fun a h => .inr h
 refine ⟨fun a => F a ∨ a ∈ L1, x, ⟨⟨L2, ⟨[], L2, z, h2.mono x fun _ _ => rfl, rfl⟩, (List.nodup_append.mp n).2.1, fun a ha fa => ?_⟩, fun a fa => ?_⟩, z⟩
 ·rcases fa with fa | fa
  ·exact f a (by simp [ha]) fa
  ·exact (List.nodup_append.mp n).2.2 a fa a ha rfl
 ·rcases fa with fa | fa
  ·exact g.dom a fa
  ·exact h1.dom a fa
theorem G.layT {xs : List D} {vs : List V} {p : Addr} (g : G K F H (xs.zip vs ++ R)) (hl : xs.length = vs.length) (hp : H p = none) :
  ∃ F', Ext F H F' (upd H p (.tup vs)) ∧ G K F' (upd H p (.tup vs)) ((.tup xs, .ref p) :: R) := by
 obtain ⟨L, h1, n, f⟩ := g.own
 have nF : ∀ a, F a → a ≠ p := fun a fa e => by obtain ⟨o, h⟩ := g.dom a fa; rw [e, hp] at h; cases h
 have nL : ∀ a ∈ L, a ≠ p := fun a ha e => by obtain ⟨o, h⟩ := h1.dom a ha; rw [e, hp] at h; cases h
 have x : Ext F H (fun a => F a ∨ a = p) (upd H p (.tup vs)) := fun a fa => ⟨.inl fa, upd_ne (nF a fa)⟩
 refine ⟨_, x, G.formT (a := p) ⟨⟨L, h1.mono x fun a ha => upd_ne (nL a ha), n, fun a ha fa => ?_⟩, fun a fa => ?_⟩ hl ⟨.inr rfl, upd_same⟩⟩
 ·rcases fa with fa | fa
  ·exact f a ha fa
  ·exact nL a ha fa
 ·rcases fa with fa | fa
  ·rw [upd_ne (nF a fa)]; exact g.dom a fa
  ·subst fa; exact ⟨_, upd_same⟩
theorem G.ext (g : G K F H R) (x : Ext F H F' H') (k : ∀ a o, H a = some o → H' a = some o) (fr : ∀ a, F' a → F a ∨ H a = none) (dm : ∀ a, F' a → ∃ o, H' a = some o) : G K F' H' R := by
 obtain ⟨L, h, n, f⟩ := g.own
 refine ⟨⟨L, h.mono x fun a ha => ?_, n, fun a ha fa => ?_⟩, dm⟩
 ·obtain ⟨o, e⟩ := h.dom a ha
  rw [e, k a o e]
 ·obtain ⟨o, e⟩ := h.dom a ha
  rcases fr a fa with z | z
  ·exact f a ha z
  ·rw [e] at z; cases z
end
end DD
namespace DD
open PySem L2
section
variable {K : PySem.W.Frag} {F F' : Addr → Prop} {H H' : Hp}
noncomputable abbrev DSt := List (Option D)
noncomputable def sl : DSt → St → Ro
 | some d :: σD, some v :: σ => (d, v) :: sl σD σ
 | some _ :: σD, none :: σ => sl σD σ
 | none :: σD, _ :: σ => sl σD σ
 | _, _ => []
noncomputable def Mt : DSt → St → Prop
 | [], [] => True
 | none :: σD, _ :: σ => Mt σD σ
 | some _ :: σD, some _ :: σ => Mt σD σ
 | _, _ => False
theorem Mt.length : ∀ {σD : DSt} {σ : St}, Mt σD σ → σD.length = σ.length
 | [], [], _ => rfl
 | none :: σD, _ :: σ, h => by simp [Mt.length (σD := σD) (σ := σ) h]
 | some _ :: σD, some _ :: σ, h => by simp [Mt.length (σD := σD) (σ := σ) h]
theorem Mt.get : ∀ {σD : DSt} {σ : St} {i : Nat} {d : D}, Mt σD σ → σD[i]? = some (some d) → ∃ v, σ[i]? = some (some v) := by
 intro σD
 induction σD with
 | nil => intro σ i d h e; simp at e
 | cons x σD ih =>
  intro σ i d h e
  cases σ with
  | nil => cases x <;> exact h.elim
  | cons o σ =>
   cases i with
   | zero =>
    simp at e; subst e
    cases o with
    | none => exact h.elim
    | some z => exact ⟨z, rfl⟩
   | succ i =>
    have e' : σD[i]? = some (some d) := by simpa using e
    cases x with
    | none => simpa using ih (σ := σ) h e'
    | some y => cases o with
     | none => exact h.elim
     | some z => simpa using ih (σ := σ) h e'
theorem Mt.clear : ∀ {σD : DSt} {σ : St} (i : Nat), Mt σD σ → Mt (σD.set i none) σ := by
 intro σD
 induction σD with
 | nil =>
  intro σ i h
  exact h
 | cons x σD ih =>
  intro σ i h
  cases σ with
  | nil => cases x <;> exact h.elim
  | cons o σ =>
   have h' : Mt σD σ := by
    cases x with
    | none => exact h
    | some y => cases o with
     | none => exact h.elim
     | some z => exact h
   cases i with
   | zero => exact h'
   | succ i =>
    have := ih i h'
    cases x with
    | none => exact this
    | some y => cases o with
     | none => exact h.elim
     | some z => exact this
theorem Mt.put : ∀ {σD : DSt} {σ : St} {i : Nat} {v : V} (d : D), Mt σD σ → σ[i]? = some (some v) → Mt (σD.set i (some d)) σ := by
 intro σD
 induction σD with
 | nil =>
  intro σ i v d h e
  cases σ with
  | nil => simp at e
  | cons o σ => exact h.elim
 | cons x σD ih =>
  intro σ i v d h e
  cases σ with
  | nil => cases x <;> exact h.elim
  | cons o σ =>
   cases i with
   | zero =>
    simp at e; subst e
    cases x <;> exact h
   | succ i =>
    have e' : σ[i]? = some (some v) := by simpa using e
    cases x with
    | none => exact ih (σ := σ) d h e'
    | some y => cases o with
     | none => exact h.elim
     | some z => exact ih (σ := σ) d h e'
theorem Mt.store : ∀ {σD : DSt} {σ : St} (i : Nat) (v : V) (d : D), Mt σD σ → Mt (σD.set i (some d)) (σ.set i (some v)) := by
 intro σD
 induction σD with
 | nil =>
  intro σ i v d h
  cases σ with
  | nil => exact h
  | cons o σ => exact h.elim
 | cons x σD ih =>
  intro σ i v d h
  cases σ with
  | nil => cases x <;> exact h.elim
  | cons o σ =>
   have h' : Mt σD σ := by
    cases x with
    | none => exact h
    | some y => cases o with
     | none => exact h.elim
     | some z => exact h
   cases i with
   | zero => exact h'
   | succ i =>
    have := ih i v d h'
    cases x with
    | none => exact this
    | some y => cases o with
     | none => exact h.elim
     | some z => exact this
theorem sl_take : ∀ {σD : DSt} {σ : St} {i : Nat} {d : D} {v : V}, σD[i]? = some (some d) → σ[i]? = some (some v) → (sl σD σ).Perm ((d, v) :: sl (σD.set i none) σ) := by
 intro σD
 induction σD with
 | nil => intro σ i d v e; simp at e
 | cons x σD ih =>
  intro σ i d v e e'
  cases σ with
  | nil => simp at e'
  | cons o σ =>
   cases i with
   | zero =>
    simp at e e'; subst e; subst e'
    exact .refl _
   | succ i =>
    have q := ih (σ := σ) (i := i) (d := d) (v := v) (by simpa using e) (by simpa using e')
    cases x with
    | none => exact q
    | some y => cases o with
     | none => exact q
     | some z => exact (q.cons _).trans (.swap _ _ _)
theorem sl_none : ∀ {σD : DSt} {σ : St} {i : Nat}, σD[i]? = some none → sl (σD.set i none) σ = sl σD σ
 | [], _, _, e => by simp at e
 | none :: σD, [], 0, _ => rfl
 | none :: σD, o :: σ, 0, _ => rfl
 | some _ :: σD, _, 0, e => by simp at e
 | x :: σD, [], i + 1, e => by cases x <;> rfl
 | none :: σD, _ :: σ, i + 1, e => sl_none (σD := σD) (σ := σ) (i := i) (by simpa using e)
 | some x :: σD, none :: σ, i + 1, e => sl_none (σD := σD) (σ := σ) (i := i) (by simpa using e)
 | some x :: σD, some y :: σ, i + 1, e => by
  show (x, y) :: sl (σD.set i none) σ = (x, y) :: sl σD σ
  rw [sl_none (σD := σD) (σ := σ) (i := i) (by simpa using e)]
theorem sl_put : ∀ {σD : DSt} {σ : St} {i : Nat} {v : V} (d : D), i < σD.length → σ[i]? = some (some v) → (sl (σD.set i (some d)) σ).Perm ((d, v) :: sl (σD.set i none) σ) := fun {σD σ i v} d h e => by
 have h1 := sl_take (σD := σD.set i (some d)) (σ := σ) (i := i) (d := d) (v := v) (by simp [h]) e
 rw [List.set_set] at h1
 exact h1
theorem sl_store : ∀ {σD : DSt} {σ : St} {i : Nat} {v : V}, sl (σD.set i none) (σ.set i (some v)) = sl (σD.set i none) σ
 | [], _, _, _ => by simp [sl]
 | x :: σD, [], i, _ => by simp
 | x :: σD, o :: σ, 0, _ => by cases o <;> rfl
 | none :: σD, o :: σ, i + 1, _ => sl_store (σD := σD) (σ := σ) (i := i)
 | some x :: σD, none :: σ, i + 1, _ => sl_store (σD := σD) (σ := σ) (i := i)
 | some x :: σD, some y :: σ, i + 1, _ => by
  show (x, y) :: sl (σD.set i none) (σ.set i _) = (x, y) :: sl (σD.set i none) σ
  rw [sl_store (σD := σD) (σ := σ) (i := i)]
theorem G.clear {σD : DSt} {σ : St} {R : Ro} (i : Nat) (m : Mt σD σ) (g : G K F H (sl σD σ ++ R)) : G K F H (sl (σD.set i none) σ ++ R) := by
 rcases h : σD[i]? with _ | _ | d
 ·rw [List.set_eq_of_length_le (List.getElem?_eq_none_iff.mp h)]; exact g
 ·rw [sl_none h]; exact g
 ·obtain ⟨v, hv⟩ := m.get h
  exact G.pop (d := d) (v := v) (g.perm ((sl_take h hv).append_right R))
structure Rel (K : PySem.W.Frag) (F : Addr → Prop) (H : Hp) (σD : DSt) (σ : St) (R : Ro) : Prop where
 mt : Mt σD σ
 g : G K F H (sl σD σ ++ R)
variable {σD : DSt} {σ : St} {R S : Ro} {d : D} {v : V} {i : Nat}
theorem Rel.perm (r : Rel K F H σD σ R) (p : R.Perm S) : Rel K F H σD σ S := ⟨r.mt, r.g.perm (p.append_left _)⟩
theorem Rel.front (r : Rel K F H σD σ R) : G K F H (R ++ sl σD σ) := r.g.perm List.perm_append_comm
theorem Rel.of (m : Mt σD σ) (g : G K F H (R ++ sl σD σ)) : Rel K F H σD σ R := ⟨m, g.perm List.perm_append_comm⟩
theorem Rel.get (r : Rel K F H σD σ R) (e : σD[i]? = some (some d)) : ∃ v, σ[i]? = some (some v) ∧ Bor K F H d v := by
 obtain ⟨v, hv⟩ := r.mt.get e
 exact ⟨v, hv, r.g.bor (List.mem_append_left _ ((sl_take e hv).mem_iff.mpr (by simp)))⟩
theorem Rel.take (r : Rel K F H σD σ R) (e : σD[i]? = some (some d)) : ∃ v, σ[i]? = some (some v) ∧ Rel K F H (σD.set i none) σ ((d, v) :: R) := by
 obtain ⟨v, hv⟩ := r.mt.get e
 refine ⟨v, hv, r.mt.clear i, r.g.perm ?_⟩
 exact ((sl_take e hv).append_right R).trans List.perm_middle.symm
theorem Rel.put (r : Rel K F H σD σ ((d, v) :: R)) (e : σ[i]? = some (some v)) : Rel K F H (σD.set i (some d)) σ R := by
 have hi : i < σD.length := by rw [r.mt.length]; exact (List.getElem?_eq_some_iff.mp e).1
 refine ⟨r.mt.put d e, (r.g.clear i r.mt).perm ?_⟩
 exact List.perm_middle.trans ((sl_put d hi e).append_right R).symm
theorem Rel.store (r : Rel K F H σD σ ((d, v) :: R)) (hi : i < σ.length) : Rel K F H (σD.set i (some d)) (σ.set i (some v)) R := by
 have hi' : i < σD.length := by rw [r.mt.length]; exact hi
 refine ⟨r.mt.store i v d, (r.g.clear i r.mt).perm ?_⟩
 have h := sl_put (σD := σD) (σ := σ.set i (some v)) (i := i) (v := v) d hi' (by simp [hi])
 rw [sl_store] at h
 exact List.perm_middle.trans (h.append_right R).symm
theorem Rel.pop (r : Rel K F H σD σ ((d, v) :: R)) : Rel K F H σD σ R := Rel.of r.mt (r.front).pop
theorem Rel.popN (r : Rel K F H σD σ (S ++ R)) : Rel K F H σD σ R := Rel.of r.mt (by have h := r.front; rw [List.append_assoc] at h; exact h.popN)
theorem Rel.push (r : Rel K F H σD σ R) (h : Ow K F H d v []) : Rel K F H σD σ ((d, v) :: R) := Rel.of r.mt (r.front.push h)
theorem Rel.bor (r : Rel K F H σD σ R) (h : (d, v) ∈ R) : Bor K F H d v := r.g.bor (List.mem_append_right _ h)
theorem Rel.freeze (r : Rel K F H σD σ ((d, v) :: R)) : ∃ F', Ext F H F' H ∧ Rel K F' H σD σ ((d.fz, v) :: R) ∧ Ow K F' H d.fz v [] := by
 obtain ⟨F', x, g, o⟩ := r.front.freeze
 exact ⟨F', x, Rel.of r.mt g, o⟩
theorem Rel.openL {xs : List D} (r : Rel K F H σD σ ((.lst true xs, v) :: R)) : ∃ a vs, v = .ref a ∧ H a = some (.lst vs) ∧ xs.length = vs.length ∧ Rel K F H σD σ ((.cell, .ref a) :: (xs.zip vs ++ R)) := by
 obtain ⟨a, vs, e, h, l, g⟩ := r.front.openL
 exact ⟨a, vs, e, h, l, Rel.of r.mt (by simpa using g)⟩
theorem Rel.formL {xs : List D} {vs : List V} {a : Addr} (r : Rel K F H σD σ ((.cell, .ref a) :: (xs.zip vs ++ R))) (hl : xs.length = vs.length) (e : H a = some (.lst vs)) : Rel K F H σD σ ((.lst true xs, .ref a) :: R) :=
 Rel.of r.mt (G.formL (vs := vs) (by simpa using r.front) hl e)
theorem Rel.openN {xs : List D} (r : Rel K F H σD σ ((.lst true xs, v) :: R)) : ∃ a vs, v = .ref a ∧ H a = some (.lst vs) ∧ xs.length = vs.length ∧ Rel K F H σD σ ((.node a vs, .ref a) :: (xs.zip vs ++ R)) := by
 obtain ⟨a, vs, e, h, l, g⟩ := r.front.openN
 exact ⟨a, vs, e, h, l, Rel.of r.mt (by simpa using g)⟩
theorem Rel.formN {xs : List D} {vs : List V} {a : Addr} (r : Rel K F H σD σ ((.node a vs, .ref a) :: (xs.zip vs ++ R))) (hl : xs.length = vs.length) : Rel K F H σD σ ((.lst true xs, .ref a) :: R) :=
 Rel.of r.mt (G.formN (vs := vs) (by simpa using r.front) hl).2
theorem Rel.nodeAt {vs : List V} {a : Addr} (r : Rel K F H σD σ R) (h : (D.node a vs, V.ref a) ∈ R) : H a = some (.lst vs) := r.g.nodeAt (List.mem_append_right _ h)
theorem Rel.openT {xs : List D} (r : Rel K F H σD σ ((.tup xs, v) :: R)) : ∃ a vs, v = .ref a ∧ FT K F H a vs [] ∧ xs.length = vs.length ∧ Rel K F H σD σ (xs.zip vs ++ R) := by
 obtain ⟨a, vs, e, h, l, g⟩ := r.front.openT
 exact ⟨a, vs, e, h, l, Rel.of r.mt (by simpa using g)⟩
theorem Rel.alloc {p : Addr} {o : HO} (r : Rel K F H σD σ R) (hp : H p = none) (hn : autoParam (NT o) Ax5._auto_1) : Rel K F (upd H p o) σD σ ((.cell, .ref p) :: R) ∧ Ext F H F (upd H p o) := by
 obtain ⟨g, x⟩ := r.front.alloc (o := o) hp hn
 exact ⟨Rel.of r.mt g, x⟩
theorem Rel.write {a : Addr} {o : HO} (r : Rel K F H σD σ ((.cell, .ref a) :: R)) (hn : autoParam (NT o) Ax5._auto_1) : Rel K F (upd H a o) σD σ ((.cell, .ref a) :: R) ∧ Ext F H F (upd H a o) := by
 obtain ⟨g, x⟩ := r.front.write (o := o) hn
 exact ⟨Rel.of r.mt g, x⟩
theorem Rel.layL {xs : List D} {vs : List V} {p : Addr} (r : Rel K F H σD σ (xs.zip vs ++ R)) (hl : xs.length = vs.length) (hp : H p = none) :
  Rel K F (upd H p (.lst vs)) σD σ ((.lst true xs, .ref p) :: R) ∧ Ext F H F (upd H p (.lst vs)) := by
 obtain ⟨r1, x⟩ := r.alloc (o := .lst vs) hp
 exact ⟨r1.formL hl upd_same, x⟩
theorem Rel.layT {xs : List D} {vs : List V} {p : Addr} (r : Rel K F H σD σ (xs.zip vs ++ R)) (hl : xs.length = vs.length) (hp : H p = none) :
  ∃ F', Ext F H F' (upd H p (.tup vs)) ∧ Rel K F' (upd H p (.tup vs)) σD σ ((.tup xs, .ref p) :: R) := by
 obtain ⟨F', x, g⟩ := G.layT (R := R ++ sl σD σ) (by simpa using r.front) hl hp
 exact ⟨F', x, Rel.of r.mt g⟩
structure Grow (F : Addr → Prop) (H : Hp) (F' : Addr → Prop) (H' : Hp) : Prop where
 x : Ext F H F' H'
 k : ∀ a o, H a = some o → H' a = some o
 fr : ∀ a, F' a → F a ∨ H a = none
 dm : (∀ a, F a → ∃ o, H a = some o) → ∀ a, F' a → ∃ o, H' a = some o
theorem Grow.refl : Grow F H F H := ⟨Ext.refl, fun _ _ e => e, fun _ h => .inl h, fun h => h⟩
theorem Grow.trans {F'' : Addr → Prop} {H'' : Hp} (a : Grow F H F' H') (b : Grow F' H' F'' H'') : Grow F H F'' H'' :=
 ⟨a.x.trans b.x, fun x o e => b.k x o (a.k x o e), fun x h => by
  rcases b.fr x h with h | h
  ·exact a.fr x h
  ·refine .inr ?_
   rcases e : H x with _ | o
   ·rfl
   ·rw [a.k x o e] at h
    exact (nomatch h), fun d => b.dm (a.dm d)⟩
theorem Rel.grow (r : Rel K F H σD σ R) (g : Grow F H F' H') : Rel K F' H' σD σ R := ⟨r.mt, r.g.ext g.x g.k g.fr (g.dm r.g.dom)⟩
theorem Bor.grow (b : Bor K F H d v) (g : Grow F H F' H') : Bor K F' H' d v := by
 obtain ⟨L, h⟩ := b
 exact ⟨L, h.mono g.x fun a ha => by obtain ⟨o, e⟩ := h.dom a ha; rw [e, g.k a o e]⟩
end
end DD
namespace DD
open PySem PySem.Spec PyProof.Rows L2
noncomputable abbrev St := L2.St
noncomputable def D.sc : D → Option V
 | .non => some .non
 | .bl b => some (.bl b)
 | .int i => some (.int i)
 | .str x => some (.str x)
 | .ty n => some (.ty n)
 | .cls a => some (.ref a)
 | _ => none
section
variable {K : PySem.W.Frag} {F F' : Addr → Prop} {H H' : Hp} {d : D} {v w : V} {L : List Addr} {R : Ro} {σD : DSt} {σ : St}
theorem Ow.of_sc (h : d.sc = some w) : Ow K F H d w [] := by
 cases d <;> simp only [D.sc] at h <;> cases h <;> simp only [Ow] <;> exact ⟨trivial, trivial⟩
theorem Ow.sc (o : Ow K F H d v L) (h : d.sc = some w) : v = w ∧ L = [] := by
 cases d <;> simp only [D.sc] at h <;> cases h <;> simp only [Ow] at o <;> exact o
theorem Bor.sc (b : Bor K F H d v) (h : d.sc = some w) : v = w := by obtain ⟨L, o⟩ := b; exact (o.sc h).1
theorem Rel.scal (r : Rel K F H σD σ R) (h : d.sc = some w) : Rel K F H σD σ ((d, w) :: R) := r.push (Ow.of_sc h)
theorem Bor.int {i : Int} (b : Bor K F H (.int i) v) : v = .int i := b.sc rfl
theorem Bor.bl {i : Bool} (b : Bor K F H (.bl i) v) : v = .bl i := b.sc rfl
theorem Bor.str {i : Str} (b : Bor K F H (.str i) v) : v = .str i := b.sc rfl
end
section
variable {X : Cx} {e : Expr} {es : List Expr} {st : Stmt} {sts : List Stmt}
theorem PE_imp {t t' : TE} (h : PE X e t) (i : ∀ σ H Q, t' σ H Q → t σ H Q) : PE X e t' := fun pins s σ H Q I h' => h pins s σ H Q I (i σ H Q h')
theorem PT_imp {t t' : TT} (h : PT X e t) (i : ∀ σ H Q, t' σ H Q → t σ H Q) : PT X e t' := fun pins s σ H Q I h' => h pins s σ H Q I (i σ H Q h')
theorem PW_imp {t t' : TT} (h : PW X e t) (i : ∀ σ H Q, t' σ H Q → t σ H Q) : PW X e t' := fun wh pins s σ H Q I h' => h wh pins s σ H Q I (i σ H Q h')
theorem PA_imp {t t' : TA} (h : PA X es t) (i : ∀ σ H Q, t' σ H Q → t σ H Q) : PA X es t' := fun p pins s σ H Q I h' => h p pins s σ H Q I (i σ H Q h')
theorem PS_imp {t t' : TS} (h : PS X st t) (i : ∀ D σ H, t' D σ H → t D σ H) : PS X st t' := fun pins s σ H D I h' => h pins s σ H D I (i D σ H h')
theorem PSs_imp {t t' : TS} (h : PSs X sts t) (i : ∀ D σ H, t' D σ H → t D σ H) : PSs X sts t' := fun pins s σ H D I h' => h pins s σ H D I (i D σ H h')
theorem OpR_imp {f : Value → Value → Sem Value} {r r' : R2} (h : OpR X f r) (i : ∀ x y H Q, r' x y H Q → r x y H Q) : OpR X f r' := fun pins s σ H x y v u Q I a b h' => h pins s σ H x y v u Q I a b (i x y H Q h')
end
noncomputable abbrev DE := DSt → Option (D × DSt)
noncomputable abbrev DP := DSt → Option D
noncomputable abbrev DA := DSt → Option (List D × DSt)
noncomputable abbrev DT := DSt → Option (Bool × DSt)
inductive Out where
 | nx (σ : DSt) | rt (d : D) (σ : DSt) | bk (σ : DSt) | ct (σ : DSt)
noncomputable abbrev DS := DSt → Option Out
noncomputable def rE (K : PySem.W.Frag) (c : DE) : TE := fun σ H Q => ∃ F R σD d σD', Rel K F H σD σ R ∧ c σD = some (d, σD') ∧ ∀ F' H' v, Ext F H F' H' → Rel K F' H' σD' σ ((d, v) :: R) → Q v H'
noncomputable def rB (K : PySem.W.Frag) (c : DP) : TE := fun σ H Q => ∃ F R σD d, Rel K F H σD σ R ∧ c σD = some d ∧ ∀ F' H' v, Grow F H F' H' → Bor K F' H' d v → Q v H'
noncomputable def rA (K : PySem.W.Frag) (c : DA) : TA := fun σ H Q => ∃ F R σD xs σD', Rel K F H σD σ R ∧ c σD = some (xs, σD') ∧ ∀ F' H' vs, Ext F H F' H' → xs.length = vs.length → Rel K F' H' σD' σ (xs.zip vs ++ R) → Q vs H'
noncomputable def rT (K : PySem.W.Frag) (c : DT) : TT := fun σ H Q => ∃ F R σD b σD', Rel K F H σD σ R ∧ c σD = some (b, σD') ∧ ∀ F' H', Ext F H F' H' → Rel K F' H' σD' σ R → Q b H'
noncomputable def Kp (W : List Nat) (σ σ' : St) : Prop := ∀ k, k ∉ W → σ'[k]? = σ[k]?
noncomputable def Th (K : PySem.W.Frag) (En : Ends) (R : Ro) (F : Addr → Prop) (H : Hp) (σ : St) : Out → Prop
 | .nx σD => Rel K F H σD σ R → En.nx σ H
 | .bk σD => Rel K F H σD σ R → En.bk σ H
 | .ct σD => Rel K F H σD σ R → En.ct σ H
 | .rt d σD => ∀ v, Rel K F H σD σ ((d, v) :: R) → En.rt v H
noncomputable def rS (K : PySem.W.Frag) (c : DS) (W : List Nat) : TS := fun En σ H => ∃ F R σD o, Rel K F H σD σ R ∧ c σD = some o ∧ ∀ F' H' σ', Ext F H F' H' → Kp W σ σ' → Th K En R F' H' σ' o
noncomputable def QE (X : Cx) (e : Expr) (c : DE) : Prop := PE X e (rE X.K c)
noncomputable def QB (X : Cx) (e : Expr) (c : DP) : Prop := PE X e (rB X.K c)
noncomputable def QA (X : Cx) (es : List Expr) (c : DA) : Prop := PA X es (rA X.K c)
noncomputable def QT (X : Cx) (e : Expr) (c : DT) : Prop := PT X e (rT X.K c)
noncomputable def QW (X : Cx) (e : Expr) (c : DT) : Prop := PW X e (rT X.K c)
noncomputable def QS (X : Cx) (st : Stmt) (c : DS) (W : List Nat) : Prop := PS X st (rS X.K c W)
noncomputable def QSs (X : Cx) (sts : List Stmt) (c : DS) (W : List Nat) : Prop := PSs X sts (rS X.K c W)
theorem Kp.refl {W : List Nat} {σ : St} : Kp W σ σ := fun _ _ => rfl
theorem Kp.trans {W : List Nat} {σ σ1 σ2 : St} (a : Kp W σ σ1) (b : Kp W σ1 σ2) : Kp W σ σ2 := fun k h => (b k h).trans (a k h)
theorem Kp.mono {W W' : List Nat} {σ σ' : St} (a : Kp W σ σ') (h : ∀ k ∈ W, k ∈ W') : Kp W' σ σ' := fun k hk => a k fun z => hk (h k z)
theorem Kp.set {σ : St} {i : Nat} {o : Option V} : Kp [i] σ (σ.set i o) := fun k hk => by
 rw [List.getElem?_set_ne]; intro e; exact hk (by simp [e])
noncomputable def dS (p : DP) : DE := fun σ => (p σ).bind fun d => match d.sc with | some _ => some (d, σ) | none => none
noncomputable def dget (σ : DSt) (i : Nat) : Option D := match σ[i]? with | some (some d) => some d | _ => none
theorem dget_some {σ : DSt} {i : Nat} {d : D} (h : dget σ i = some d) : σ[i]? = some (some d) := by
 unfold dget at h
 split at h
 ·cases h; assumption
 ·cases h
noncomputable def pV (i : Nat) : DP := fun σ => dget σ i
noncomputable def pC (d : D) : DP := fun _ => some d
noncomputable def dCp (i : Nat) : DE := fun σ => (dget σ i).map fun d => (d.fz, σ.set i (some d.fz))
noncomputable def dMv (i : Nat) : DE := fun σ => (dget σ i).map fun d => (d, σ.set i none)
section
variable {X : Cx} {e a b : Expr} {es : List Expr} {p q : DP} {c c' : DE} {pos : Pos}
theorem qe_s (h : QB X e p) : QE X e (dS p) := PE_imp h fun σ H Q hq0 => by
 obtain ⟨F, R, σD, d, σD', r, ec, k⟩ := hq0
 unfold dS at ec
 rcases hp : p σD with _ | x
 ·rw [hp] at ec; cases ec
 ·rw [hp] at ec
  simp only [bind_some] at ec
  rcases hs : x.sc with _ | w
  ·rw [hs] at ec; cases ec
  ·rw [hs] at ec; cases ec
   refine ⟨F, R, σD, d, r, hp, fun F' H' v g b => k F' H' v g.x ?_⟩
   rw [b.sc hs]; exact (r.grow g).scal hs
theorem qb_v (i : Nat) {x : Str} {pos : Pos} (hN : autoParam (X.N[i]? = some x) Ax4._auto_1) (hv : autoParam (Vis X.env.scope x) Ax6._auto_1) (hd : autoParam ((x == ("__debug__" : Str)) = false) Ax1._auto_1)
  (hcd : autoParam ((x == ("__classdict__" : Str)) = false) Ax1._auto_1) : QB X (.Name x pos) (pV i) := PE_imp (pe_var hN hv hd hcd) fun σ H Q hq0 => by
 obtain ⟨F, R, σD, d, r, ec, k⟩ := hq0
 obtain ⟨v, hv, b⟩ := r.get (dget_some ec)
 exact ⟨v, hv, k F H v Grow.refl b⟩
theorem qb_int {i : Int} {j pos} : QB X (.Constant (.int i) j pos) (pC (.int i)) := PE_imp pe_int fun σ H Q hq0 => by
 obtain ⟨F, R, σD, d, r, ec, k⟩ := hq0
 cases ec; exact k F H _ Grow.refl ⟨[], Ow.of_sc rfl⟩
theorem qb_bl {i : Bool} {j pos} : QB X (.Constant (.bool i) j pos) (pC (.bl i)) := PE_imp pe_bl fun σ H Q hq0 => by
 obtain ⟨F, R, σD, d, r, ec, k⟩ := hq0
 cases ec; exact k F H _ Grow.refl ⟨[], Ow.of_sc rfl⟩
theorem map_pair {α β γ : Type} {o : Option α} {f : α → β × γ} {d : β} {s : γ} (h : o.map f = some (d, s)) : ∃ x, o = some x ∧ f x = (d, s) := by
 cases o with
 | none => cases h
 | some x => exact ⟨x, rfl, Option.some.inj h⟩
theorem qe_cp (i : Nat) {x : Str} {pos : Pos} (hN : autoParam (X.N[i]? = some x) Ax4._auto_1) (hv : autoParam (Vis X.env.scope x) Ax6._auto_1) (hd : autoParam ((x == ("__debug__" : Str)) = false) Ax1._auto_1)
  (hcd : autoParam ((x == ("__classdict__" : Str)) = false) Ax1._auto_1) : QE X (.Name x pos) (dCp i) := PE_imp (pe_var hN hv hd hcd) fun σ H Q hq0 => by
 obtain ⟨F, R, σD, d, σD', r, ec, k⟩ := hq0
 obtain ⟨d0, e0, e1⟩ := map_pair ec
 cases e1
 obtain ⟨v, hv, r1⟩ := r.take (dget_some e0)
 obtain ⟨F', x, r2, o⟩ := r1.freeze
 have r3 := (r2.push o).put hv
 rw [List.set_set] at r3
 exact ⟨v, hv, k F' H v x r3⟩
theorem qe_mv (i : Nat) {x : Str} {pos : Pos} (hN : autoParam (X.N[i]? = some x) Ax4._auto_1) (hv : autoParam (Vis X.env.scope x) Ax6._auto_1) (hd : autoParam ((x == ("__debug__" : Str)) = false) Ax1._auto_1)
  (hcd : autoParam ((x == ("__classdict__" : Str)) = false) Ax1._auto_1) : QE X (.Name x pos) (dMv i) := PE_imp (pe_var hN hv hd hcd) fun σ H Q hq0 => by
 obtain ⟨F, R, σD, d, σD', r, ec, k⟩ := hq0
 obtain ⟨d0, e0, e1⟩ := map_pair ec
 cases e1
 obtain ⟨v, hv, r1⟩ := r.take (dget_some e0)
 exact ⟨v, hv, k F H v Ext.refl r1⟩
structure OpS (X : Cx) (f : Value → Value → Sem Value) (g : D → D → Option D) : Prop where
 run : OpR X f (fun x y H Q => ∃ F dx dy d w, Bor X.K F H dx x ∧ Bor X.K F H dy y ∧ g dx dy = some d ∧ d.sc = some w ∧ Q w H)
 sc : ∀ x y d, g x y = some d → ∃ w, d.sc = some w
noncomputable def dOp (g : D → D → Option D) (c c' : DE) : DE := fun σ => (c σ).bind fun p => (c' p.2).bind fun q => (g p.1 q.1).map fun d => (d, q.2)
noncomputable def pOp (g : D → D → Option D) (p q : DP) : DP := fun σ => (p σ).bind fun x => (q σ).bind fun y => g x y
theorem dOp_some {g : D → D → Option D} {σ σ' : DSt} {d : D} (h : dOp g c c' σ = some (d, σ')) : ∃ x y σ1, c σ = some (x, σ1) ∧ c' σ1 = some (y, σ') ∧ g x y = some d := by
 unfold dOp at h
 rcases h1 : c σ with _ | ⟨x, σ1⟩
 ·rw [h1] at h; cases h
 ·rw [h1] at h; simp only [bind_some] at h
  rcases h2 : c' σ1 with _ | ⟨y, σ2⟩
  ·rw [h2] at h; cases h
  ·rw [h2] at h; simp only [bind_some] at h
   obtain ⟨z, e, e2⟩ := map_pair h
   cases e2
   exact ⟨x, y, σ1, rfl, h2, e⟩
theorem pOp_some {g : D → D → Option D} {σ : DSt} {d : D} (h : pOp g p q σ = some d) : ∃ x y, p σ = some x ∧ q σ = some y ∧ g x y = some d := by
 unfold pOp at h
 rcases h1 : p σ with _ | x
 ·rw [h1] at h; cases h
 ·rw [h1] at h; simp only [bind_some] at h
  rcases h2 : q σ with _ | y
  ·rw [h2] at h; cases h
  ·rw [h2] at h; simp only [bind_some] at h
   exact ⟨x, y, rfl, rfl, h⟩
theorem rOp {f : Value → Value → Sem Value} {g : D → D → Option D} (o : OpS X f g) {σ : St} {H : Hp} {Q : VK} (h : rE X.K (dOp g c c') σ H Q) :
  tOp (fun x y H Q => ∃ F dx dy d w, Bor X.K F H dx x ∧ Bor X.K F H dy y ∧ g dx dy = some d ∧ d.sc = some w ∧ Q w H) (rE X.K c) (rE X.K c') σ H Q := by
 obtain ⟨F, R, σD, d, σD', r, ec, k⟩ := h
 obtain ⟨x, y, σ1, e1, e2, eg⟩ := dOp_some ec
 obtain ⟨w, hw⟩ := o.sc _ _ _ eg
 refine ⟨F, R, σD, x, σ1, r, e1, fun F1 H1 v x1 r1 => ?_⟩
 refine ⟨F1, _, σ1, y, σD', r1, e2, fun F2 H2 u x2 r2 => ?_⟩
 refine ⟨F2, x, y, d, w, r2.bor (by simp), r2.bor (by simp), eg, hw, k F2 H2 w (x1.trans x2) ?_⟩
 exact (r2.pop.pop).scal hw
theorem rOpB {f : Value → Value → Sem Value} {g : D → D → Option D} (o : OpS X f g) {σ : St} {H : Hp} {Q : VK} (h : rB X.K (pOp g p q) σ H Q) :
  tOp (fun x y H Q => ∃ F dx dy d w, Bor X.K F H dx x ∧ Bor X.K F H dy y ∧ g dx dy = some d ∧ d.sc = some w ∧ Q w H) (rB X.K p) (rB X.K q) σ H Q := by
 obtain ⟨F, R, σD, d, r, ec, k⟩ := h
 obtain ⟨x, y, e1, e2, eg⟩ := pOp_some ec
 obtain ⟨w, hw⟩ := o.sc _ _ _ eg
 refine ⟨F, R, σD, x, r, e1, fun F1 H1 v g1 b1 => ?_⟩
 refine ⟨F1, R, σD, y, r.grow g1, e2, fun F2 H2 u g2 b2 => ?_⟩
 exact ⟨F2, x, y, d, w, b1.grow g2, b2, eg, hw, k F2 H2 w (g1.trans g2) ⟨[], Ow.of_sc hw⟩⟩
theorem qe_op {op : Operator} {g : D → D → Option D} (o : OpS X (binaryOp op) g) (ha : QE X a c) (hb : QE X b c') : QE X (.BinOp a op b pos) (dOp g c c') :=
 PE_imp (pe_op o.run ha hb) fun _ _ _ h => rOp o h
theorem qb_op {op : Operator} {g : D → D → Option D} (o : OpS X (binaryOp op) g) (ha : QB X a p) (hb : QB X b q) : QB X (.BinOp a op b pos) (pOp g p q) :=
 PE_imp (pe_op o.run ha hb) fun _ _ _ h => rOpB o h
noncomputable def gI (C : Int → Int → Bool) (f : Int → Int → Int) : D → D → Option D
 | .int i, .int j => if C i j = true then some (.int (f i j)) else none
 | _, _ => none
noncomputable def gI0 (f : Int → Int → Int) : D → D → Option D
 | .int i, .int j => some (.int (f i j))
 | _, _ => none
noncomputable def gB0 (f : Int → Int → Bool) : D → D → Option D
 | .int i, .int j => some (.bl (f i j))
 | _, _ => none
theorem opS_I {f : Value → Value → Sem Value} {C : Int → Int → Prop} {Cb : Int → Int → Bool} {g : Int → Int → Int} (h : OpR X f (rI C fun i j => .int (g i j))) (hC : ∀ i j, Cb i j = true → C i j) : OpS X f (gI Cb g) := by
 refine ⟨OpR_imp h fun x y H Q pz => ?_, fun x y d h => ?_⟩
 ·obtain ⟨F, dx, dy, d, w, b1, b2, eg, hw, q⟩ := pz
  unfold gI at eg
  split at eg
  ·split at eg
   ·cases eg; cases hw
    exact ⟨_, _, b1.int, b2.int, hC _ _ (by assumption), q⟩
   ·cases eg
  ·cases eg
 ·unfold gI at h
  split at h
  ·split at h
   ·cases h; exact ⟨_, rfl⟩
   ·cases h
  ·cases h
theorem opS_I0 {f : Value → Value → Sem Value} {g : Int → Int → Int} (h : OpR X f (rI0 fun i j => .int (g i j))) : OpS X f (gI0 g) := by
 refine ⟨OpR_imp h fun x y H Q pz => ?_, fun x y d h => ?_⟩
 ·obtain ⟨F, dx, dy, d, w, b1, b2, eg, hw, q⟩ := pz
  unfold gI0 at eg
  split at eg
  ·cases eg; cases hw
   exact ⟨_, _, b1.int, b2.int, q⟩
  ·cases eg
 ·unfold gI0 at h
  split at h
  ·cases h; exact ⟨_, rfl⟩
  ·cases h
theorem opS_B0 {f : Value → Value → Sem Value} {g : Int → Int → Bool} (h : OpR X f (rI0 fun i j => .bl (g i j))) : OpS X f (gB0 g) := by
 refine ⟨OpR_imp h fun x y H Q pz => ?_, fun x y d h => ?_⟩
 ·obtain ⟨F, dx, dy, d, w, b1, b2, eg, hw, q⟩ := pz
  unfold gB0 at eg
  split at eg
  ·cases eg; cases hw
   exact ⟨_, _, b1.int, b2.int, q⟩
  ·cases eg
 ·unfold gB0 at h
  split at h
  ·cases h; exact ⟨_, rfl⟩
  ·cases h
theorem o_add : OpS X (binaryOp .Add) (gI0 fun i j => i + j) := opS_I0 op_add
theorem o_sub : OpS X (binaryOp .Sub) (gI0 fun i j => i - j) := opS_I0 op_sub
theorem o_and : OpS X (binaryOp .BitAnd) (gI0 Builtin.bitAnd) := opS_I0 op_and
theorem o_xor : OpS X (binaryOp .BitXor) (gI0 Builtin.bitXor) := opS_I0 op_xor
theorem o_mod : OpS X (binaryOp .Mod) (gI (fun _ j => decide (0 < j)) fun i j => i % j) := opS_I op_mod fun i j h => by simpa using h
theorem o_pow : OpS X (binaryOp .Pow) (gI (fun i j => decide (0 ≤ j ∧ j ≤ 1000000 ∧ i.natAbs < 2 ^ 64)) fun i j => i ^ j.toNat) := opS_I op_pow fun i j h => by simpa [CPow] using h
theorem o_shl : OpS X (binaryOp .LShift) (gI (fun i j => decide (0 ≤ j ∧ j ≤ 1000000 ∧ i.natAbs < 2 ^ 64)) fun i j => i * 2 ^ j.toNat) := opS_I op_shl fun i j h => by simpa [CPow] using h
theorem o_lt : OpS X (compareOp .Lt) (gB0 fun i j => decide (i < j)) := opS_B0 op_lt
theorem o_gt : OpS X (compareOp .Gt) (gB0 fun i j => decide (j < i)) := opS_B0 op_gt
theorem o_ge : OpS X (compareOp .GtE) (gB0 fun i j => decide (j ≤ i)) := opS_B0 op_ge
noncomputable def aNil : DA := fun σ => some ([], σ)
noncomputable def aCons (c : DE) (ca : DA) : DA := fun σ => (c σ).bind fun p => (ca p.2).map fun q => (p.1 :: q.1, q.2)
theorem qa_nil : QA X [] aNil := PA_imp pa_nil fun σ H Q hq0 => by
 obtain ⟨F, R, σD, xs, σD', r, ec, k⟩ := hq0
 cases ec; exact k F H [] Ext.refl rfl r
theorem qa_cons {ca : DA} (ha : QE X e c) (hr : QA X es ca) (hs : autoParam (starEach (e :: es) X.env = (false, eval e X.env) :: starEach es X.env) Ax4._auto_1) : QA X (e :: es) (aCons c ca) := PA_imp (pa_cons ha hr hs) fun σ H Q hq0 => by
 obtain ⟨F, R, σD, xs, σD', r, ec, k⟩ := hq0
 unfold aCons at ec
 rcases h1 : c σD with _ | ⟨x, σ1⟩
 ·rw [h1] at ec; cases ec
 ·rw [h1] at ec; simp only [bind_some] at ec
  obtain ⟨⟨ys, σ2⟩, e2, e3⟩ := map_pair ec
  cases e3
  refine ⟨F, R, σD, x, σ1, r, h1, fun F1 H1 v x1 r1 => ?_⟩
  refine ⟨F1, _, σ1, ys, σ2, r1, e2, fun F2 H2 vs x2 hl r2 => ?_⟩
  refine k F2 H2 (v :: vs) (x1.trans x2) (by simp [hl]) (r2.perm ?_)
  exact List.perm_middle
noncomputable def dLst (ca : DA) : DE := fun σ => (ca σ).bind fun p => if p.1.length ≤ sizeLine then some (.lst true p.1, p.2) else none
noncomputable def dTup (ca : DA) : DE := fun σ => (ca σ).bind fun p => if p.1.length ≤ sizeLine then some (.tup p.1, p.2) else none
theorem qe_lst {ca : DA} (h : QA X es ca) : QE X (.List es pos) (dLst ca) := PE_imp (pe_lst h) fun σ H Q hq0 => by
 obtain ⟨F, R, σD, d, σD', r, ec, k⟩ := hq0
 unfold dLst at ec
 rcases h1 : ca σD with _ | ⟨xs, σ1⟩
 ·rw [h1] at ec; cases ec
 ·rw [h1] at ec; simp only [bind_some] at ec
  split at ec
  ·rename_i hz
   cases ec
   refine ⟨F, R, σD, xs, _, r, h1, fun F1 H1 vs x1 hl r1 => ⟨by rw [← hl]; exact hz, fun p hp => ?_⟩⟩
   obtain ⟨r2, x2⟩ := r1.layL hl hp
   exact k F1 _ _ (x1.trans x2) r2
  ·cases ec
theorem qe_tup {ca : DA} {x1} (h : QA X es ca) : QE X (.Tuple es x1 pos) (dTup ca) := PE_imp (pe_tup h) fun σ H Q hq0 => by
 obtain ⟨F, R, σD, d, σD', r, ec, k⟩ := hq0
 unfold dTup at ec
 rcases h1 : ca σD with _ | ⟨xs, σ1⟩
 ·rw [h1] at ec; cases ec
 ·rw [h1] at ec; simp only [bind_some] at ec
  split at ec
  ·rename_i hz
   cases ec
   refine ⟨F, R, σD, xs, _, r, h1, fun F1 H1 vs x1 hl r1 => ⟨by rw [← hl]; exact hz, fun p hp => ?_⟩⟩
   obtain ⟨F2, x2, r2⟩ := r1.layT hl hp
   exact k F2 _ _ (x1.trans x2) r2
  ·cases ec
end
end DD
namespace DD
open PySem PySem.Spec PyProof.Rows L2
section
variable {K : PySem.W.Frag} {F F' : Addr → Prop} {H H' : Hp} {d x : D} {v w : V} {L : List Addr} {R : Ro} {σD : DSt} {σ : St} {xs : List D} {vs : List V}
theorem OwL.length : ∀ {xs : List D} {vs : List V} {L : List Addr}, OwL K F H xs vs L → vs.length = xs.length := fun h => h.toP.1.symm
theorem OwL.kid : ∀ {xs : List D} {vs : List V} {L : List Addr} {j : Nat}, OwL K F H xs vs L → xs[j]? = some x → ∃ w La Lx Lb, vs[j]? = some w ∧ L = La ++ Lx ++ Lb ∧ Ow K F H x w Lx ∧
  ∀ (F' : Addr → Prop) (H' : Hp) (x' : D) (Lx' : List Addr), Ext F H F' H' → (∀ a ∈ La ++ Lb, H' a = H a) → Ow K F' H' x' w Lx' → OwL K F' H' (xs.set j x') vs (La ++ Lx' ++ Lb) := by
 intro xs
 induction xs with
 | nil => intro vs L j h e; simp at e
 | cons y ys ih =>
  intro vs L j h e
  simp only [OwL] at h
  obtain ⟨u, ws, L1, L2, rfl, h1, h2, rfl⟩ := h
  cases j with
  | zero =>
   simp at e; subst e
   refine ⟨u, [], L1, L2, rfl, rfl, h1, fun F' H' x' Lx' x k o => ?_⟩
   simp only [List.set_cons_zero, OwL]
   exact ⟨u, ws, Lx', L2, rfl, o, h2.mono x fun a ha => k a (by simp [ha]), rfl⟩
  | succ j =>
   obtain ⟨w, La, Lx, Lb, e1, rfl, o, k⟩ := ih (j := j) h2 (by simpa using e)
   refine ⟨w, L1 ++ La, Lx, Lb, by simpa using e1, by simp, o, fun F' H' x' Lx' x kk o' => ?_⟩
   simp only [List.set_cons_succ, OwL]
   exact ⟨u, ws, L1, La ++ Lx' ++ Lb, rfl, h1.mono x fun a ha => kk a (by simp [ha]), k F' H' x' Lx' x (fun a ha => kk a (by simp at ha ⊢; rcases ha with ha | ha <;> simp [ha])) o', by simp⟩
theorem OwL.get (h : OwL K F H xs vs L) {j : Nat} (e : xs[j]? = some x) : ∃ w, vs[j]? = some w ∧ Bor K F H x w := by
 obtain ⟨w, _, Lx, _, e1, _, o, _⟩ := h.kid e
 exact ⟨w, e1, Lx, o⟩
theorem OwL.at (h : OwL K F H xs vs L) {i : Int} (e : atI xs i = some x) : ∃ w, atI vs i = some w ∧ Bor K F H x w := by
 unfold atI at e ⊢
 rw [h.length]
 rcases hj : ixN xs.length i with _ | j
 ·rw [hj] at e; cases e
 ·rw [hj] at e; exact h.get e
theorem Bor.lst {o : Bool} (b : Bor K F H (.lst o xs) v) : ∃ a vs, v = .ref a ∧ SqL K H a vs ∧ ∃ L, OwL K F H xs vs L := by
 obtain ⟨L, h⟩ := b
 cases o
 ·simp only [Ow] at h
  obtain ⟨a, vs, rfl, f, r, _⟩ := h
  exact ⟨a, vs, rfl, f.sq, _, r⟩
 ·simp only [Ow] at h
  obtain ⟨a, vs, L', rfl, e, r, _⟩ := h
  exact ⟨a, vs, rfl, .inl (.inl e), _, r⟩
theorem Bor.tup (b : Bor K F H (.tup xs) v) : ∃ a vs, v = .ref a ∧ SqT K H a vs ∧ ∃ L, OwL K F H xs vs L := by
 obtain ⟨L, h⟩ := b
 simp only [Ow] at h
 obtain ⟨a, vs, rfl, f, r⟩ := h
 exact ⟨a, vs, rfl, f.sq, _, r⟩
noncomputable def ixD : D → D → Option D
 | .lst _ xs, .int i => atI xs i
 | .tup xs, .int i => atI xs i
 | .str z, .int i => if z.length ≤ sizeLine then (atI z.cps.toList i).map fun c => .str ⟨#[c]⟩ else none
 | _, _ => none
end
section
variable {X : Cx} {e a b : Expr} {es : List Expr} {p q : DP} {c c' : DE} {pos : Pos}
theorem rIx_of {F : Addr → Prop} {H : Hp} {dx dy d : D} {x y : V} {Q : VK} (b1 : Bor X.K F H dx x) (b2 : Bor X.K F H dy y) (e : ixD dx dy = some d) (k : ∀ v, Bor X.K F H d v → Q v H) : rIx X.K x y H Q := by
 unfold ixD at e
 split at e
 ·obtain ⟨a, vs, rfl, s, L, r⟩ := b1.lst
  obtain ⟨w, e1, bw⟩ := r.at e
  exact .inl ⟨a, vs, _, w, rfl, b2.int, s, e1, k w bw⟩
 ·obtain ⟨a, vs, rfl, s, L, r⟩ := b1.tup
  obtain ⟨w, e1, bw⟩ := r.at e
  exact .inr (.inl ⟨a, vs, _, w, rfl, b2.int, s, e1, k w bw⟩)
 ·split at e
  ·rename_i z i hz
   rcases h : atI z.cps.toList i with _ | ch
   ·rw [h] at e; cases e
   ·rw [h] at e; cases e
    exact .inr (.inr ⟨z, i, ch, b1.str, b2.int, hz, h, k _ ⟨[], Ow.of_sc rfl⟩⟩)
  ·cases e
 ·cases e
theorem qb_ix (ha : QB X a p) (hb : QB X b q) (hs : autoParam (PlainIx b) Ax7._auto_1) : QB X (.Subscript a b pos) (pOp ixD p q) := PE_imp (pe_ix ix_seq ha hb hs) fun σ H Q hq0 => by
 obtain ⟨F, R, σD, d, r, ec, k⟩ := hq0
 obtain ⟨x, y, e1, e2, eg⟩ := pOp_some ec
 refine ⟨F, R, σD, x, r, e1, fun F1 H1 v g1 b1 => ?_⟩
 refine ⟨F1, R, σD, y, r.grow g1, e2, fun F2 H2 u g2 b2 => ?_⟩
 exact rIx_of (b1.grow g2) b2 eg fun v bv => k F2 H2 v (g1.trans g2) bv
noncomputable def dIx (c c' : DE) : DE := fun σ => (c σ).bind fun p => (c' p.2).bind fun q => (ixD p.1 q.1).map fun d => (d, q.2)
end
end DD
namespace DD
open PySem PySem.Spec PyProof.Rows L2
noncomputable def dTest (c : DE) : DT := fun σ => (c σ).bind fun p => match p.1 with | .bl b => some (b, p.2) | _ => none
noncomputable def tAndD (t u : DT) : DT := fun σ => (t σ).bind fun p => if p.1 = true then u p.2 else some (false, p.2)
noncomputable def tOrD (t u : DT) : DT := fun σ => (t σ).bind fun p => if p.1 = true then some (true, p.2) else u p.2
noncomputable def tNotD (t : DT) : DT := fun σ => (t σ).map fun p => (!p.1, p.2)
section
variable {X : Cx} {e a b : Expr} {es rest : List Expr} {p q : DP} {c c' : DE} {t u : DT} {pos : Pos}
theorem dTest_some {σ σ' : DSt} {k : Bool} (h : dTest c σ = some (k, σ')) : c σ = some (.bl k, σ') := by
 unfold dTest at h
 rcases h1 : c σ with _ | ⟨x, σ1⟩
 ·rw [h1] at h; cases h
 ·rw [h1] at h; simp only [bind_some] at h
  split at h
  ·cases h; rfl
  ·cases h
theorem qt_e (h : QE X e c) (he : autoParam (∀ whole, isTrue e X.env whole = (do let v ← whole; standAt e.pos; holding [v] (truthy v))) Ax3._auto_1) : QT X e (dTest c) := PT_imp (pt_val h he) fun σ H Q hq0 => by
 obtain ⟨F, R, σD, k, σD', r, ec, kk⟩ := hq0
 refine ⟨F, R, σD, _, σD', r, dTest_some ec, fun F' H' v x r' => ⟨k, (r'.bor (by simp)).bl, kk F' H' x r'.pop⟩⟩
theorem qt_cmp {op : CmpOp} {g : D → D → Option D} (o : OpS X (compareOp op) g) (ha : QE X a c) (hb : QE X b c') (hm : behindInMarks op b = false) : QT X (.Compare a [op] [b] pos) (dTest (dOp g c c')) :=
 PT_imp (pt_cmpR o.run ha hb hm) fun σ H Q hq0 => by
  obtain ⟨F, R, σD, k, σD', r, ec, kk⟩ := hq0
  show tOp _ _ _ σ H _
  exact rOp o ⟨F, R, σD, _, σD', r, dTest_some ec, fun F' H' v x r' => ⟨k, (r'.bor (by simp)).bl, kk F' H' x r'.pop⟩⟩
theorem qt_not (h : QT X e t) : QT X (.UnaryOp .Not e pos) (tNotD t) := PT_imp (pt_not h) fun σ H Q hq0 => by
 obtain ⟨F, R, σD, k, σD', r, ec, kk⟩ := hq0
 unfold tNotD at ec
 obtain ⟨⟨b, σ1⟩, e1, e2⟩ := map_pair ec
 cases e2
 exact ⟨F, R, σD, b, σ1, r, e1, fun F' H' x r' => kk F' H' x r'⟩
theorem qw_t (h : QW X e t) : QT X e t := h.pt
theorem qw_and1 (h : QT X a t) : QW X (.BoolOp .And [a] pos) t := pw_and1 h
theorem qw_or1 (h : QT X a t) : QW X (.BoolOp .Or [a] pos) t := pw_or1 h
theorem qw_and (ha : QT X a t) (hb : QW X (.BoolOp .And (b :: rest) pos) u) : QW X (.BoolOp .And (a :: b :: rest) pos) (tAndD t u) := PW_imp (pw_and ha hb) fun σ H Q hq0 => by
 obtain ⟨F, R, σD, k, σD', r, ec, kk⟩ := hq0
 unfold tAndD at ec
 rcases h1 : t σD with _ | ⟨x, σ1⟩
 ·rw [h1] at ec; cases ec
 ·rw [h1] at ec; simp only [bind_some] at ec
  refine ⟨F, R, σD, x, σ1, r, h1, fun F' H' x1 r' => ?_⟩
  cases x
  ·simp only [Bool.false_eq_true, if_false] at ec ⊢
   cases ec
   exact kk F' H' x1 r'
  ·simp only [if_true] at ec ⊢
   exact ⟨F', R, σ1, k, σD', r', ec, fun F2 H2 x2 r2 => kk F2 H2 (x1.trans x2) r2⟩
theorem qw_or (ha : QT X a t) (hb : QW X (.BoolOp .Or (b :: rest) pos) u) : QW X (.BoolOp .Or (a :: b :: rest) pos) (tOrD t u) := PW_imp (pw_or ha hb) fun σ H Q hq0 => by
 obtain ⟨F, R, σD, k, σD', r, ec, kk⟩ := hq0
 unfold tOrD at ec
 rcases h1 : t σD with _ | ⟨x, σ1⟩
 ·rw [h1] at ec; cases ec
 ·rw [h1] at ec; simp only [bind_some] at ec
  refine ⟨F, R, σD, x, σ1, r, h1, fun F' H' x1 r' => ?_⟩
  cases x
  ·simp only [Bool.false_eq_true, if_false] at ec ⊢
   exact ⟨F', R, σ1, k, σD', r', ec, fun F2 H2 x2 r2 => kk F2 H2 (x1.trans x2) r2⟩
  ·simp only [if_true] at ec ⊢
   cases ec
   exact kk F' H' x1 r'
end
noncomputable def sSkip : DS := fun σ => some (.nx σ)
noncomputable def sSeq (c d : DS) : DS := fun σ => (c σ).bind fun o => match o with | .nx σ' => d σ' | o => some o
noncomputable def sSet (i : Nat) (c : DE) : DS := fun σ => (c σ).bind fun p => if i < p.2.length then some (.nx (p.2.set i (some p.1))) else none
noncomputable def sIf (t : DT) (c d : DS) : DS := fun σ => (t σ).bind fun p => if p.1 = true then c p.2 else d p.2
noncomputable def sRet (c : DE) : DS := fun σ => (c σ).map fun p => .rt p.1 p.2
noncomputable def sDrop (c : DE) : DS := fun σ => (c σ).map fun p => .nx p.2
noncomputable def sNone : DS := fun _ => none
section
variable {X : Cx} {e a b : Expr} {st : Stmt} {sts : List Stmt} {c c' : DE} {s s' : DS} {t u : DT} {pos : Pos} {W W' : List Nat}
theorem qss_nil : QSs X [] sSkip [] := PSs_imp pss_nil fun En σ H hq0 => by
 obtain ⟨F, R, σD, o, r, ec, k⟩ := hq0
 cases ec; exact k F H σ Ext.refl Kp.refl r
theorem qss_cons (h1 : QS X st s W) (h2 : QSs X sts s' W') : QSs X (st :: sts) (sSeq s s') (W ++ W') := PSs_imp (pss_cons h1 h2) fun En σ H hq0 => by
 obtain ⟨F, R, σD, o, r, ec, k⟩ := hq0
 unfold sSeq at ec
 rcases h : s σD with _ | o1
 ·rw [h] at ec; cases ec
 ·rw [h] at ec; simp only [bind_some] at ec
  refine ⟨F, R, σD, o1, r, h, fun F1 H1 σ1 x1 kp1 => ?_⟩
  have kp1' : Kp (W ++ W') σ σ1 := kp1.mono fun k hk => by simp [hk]
  cases o1 with
  | nx σ2 =>
   intro r1
   refine ⟨F1, R, σ2, o, r1, ec, fun F2 H2 σ3 x2 kp2 => ?_⟩
   exact k F2 H2 σ3 (x1.trans x2) (kp1'.trans (kp2.mono fun k hk => by simp [hk]))
  | bk σ2 => cases ec; exact k F1 H1 σ1 x1 kp1'
  | ct σ2 => cases ec; exact k F1 H1 σ1 x1 kp1'
  | rt d σ2 => cases ec; exact k F1 H1 σ1 x1 kp1'
theorem qss_one (h1 : QS X st s W) : QSs X [st] s W := pss_one h1
theorem qss_never : QSs X sts sNone [] := PSs_imp pss_never fun En σ H hq0 => by obtain ⟨F, R, σD, o, r, ec, k⟩ := hq0; cases ec
theorem qs_set (i : Nat) {x : Str} {pos' : Pos} (hN : X.N.Nodup) (he : QE X e c) (hi : autoParam (X.N[i]? = some x) Ax4._auto_1) (hx : autoParam (Loc X.env.scope x) Ax8._auto_1) (hs : autoParam (swapsWith e (some (.Name x pos')) pos.line X.env = pure false) Ax4._auto_1) (hf : autoParam (X.fn x = true ∨ X.env.scope.names.lookup x = some .local) Ax0._auto_1) :
  QS X (.Assign [.Name x pos'] e pos) (sSet i c) [i] := PS_imp (ps_set hN hi hx he hs hf) fun En σ H hq0 => by
 obtain ⟨F, R, σD, o, r, ec, k⟩ := hq0
 unfold sSet at ec
 rcases h : c σD with _ | ⟨d, σ1⟩
 ·rw [h] at ec; cases ec
 ·rw [h] at ec; simp only [bind_some] at ec
  split at ec
  ·rename_i hl
   cases ec
   refine ⟨F, R, σD, d, σ1, r, h, fun F1 H1 v x1 r1 => ?_⟩
   exact k F1 H1 _ x1 Kp.set (r1.store (by rw [← r1.mt.length]; exact hl))
  ·cases ec
theorem qs_if {as bs : List Stmt} (ht : QT X e t) (ha : QSs X as s W) (hb : QSs X bs s' W') : QS X (.If e as bs pos) (sIf t s s') (W ++ W') := PS_imp (ps_if ht ha hb) fun En σ H hq0 => by
 obtain ⟨F, R, σD, o, r, ec, k⟩ := hq0
 unfold sIf at ec
 rcases h : t σD with _ | ⟨x, σ1⟩
 ·rw [h] at ec; cases ec
 ·rw [h] at ec; simp only [bind_some] at ec
  refine ⟨F, R, σD, x, σ1, r, h, fun F1 H1 x1 r1 => ?_⟩
  cases x
  ·simp only [Bool.false_eq_true, if_false] at ec ⊢
   exact ⟨F1, R, σ1, o, r1, ec, fun F2 H2 σ2 x2 kp => k F2 H2 σ2 (x1.trans x2) (kp.mono fun k hk => by simp [hk])⟩
  ·simp only [if_true] at ec ⊢
   exact ⟨F1, R, σ1, o, r1, ec, fun F2 H2 σ2 x2 kp => k F2 H2 σ2 (x1.trans x2) (kp.mono fun k hk => by simp [hk])⟩
theorem qs_ret (he : QE X e c) : QS X (.Return (some e) pos) (sRet c) [] := PS_imp (ps_ret he) fun En σ H hq0 => by
 obtain ⟨F, R, σD, o, r, ec, k⟩ := hq0
 unfold sRet at ec
 rcases h : c σD with _ | ⟨d, σ1⟩
 ·rw [h] at ec; cases ec
 ·rw [h] at ec; cases ec
  exact ⟨F, R, σD, d, σ1, r, h, fun F1 H1 v x1 r1 => k F1 H1 σ x1 Kp.refl v r1⟩
theorem qs_expr (he : QE X e c) (hs : autoParam (swapsWith e none pos.line X.env = pure false) Ax4._auto_1) : QS X (.Expr e pos) (sDrop c) [] := PS_imp (ps_expr he hs) fun En σ H hq0 => by
 obtain ⟨F, R, σD, o, r, ec, k⟩ := hq0
 unfold sDrop at ec
 rcases h : c σD with _ | ⟨d, σ1⟩
 ·rw [h] at ec; cases ec
 ·rw [h] at ec; cases ec
  exact ⟨F, R, σD, d, σ1, r, h, fun F1 H1 v x1 r1 => k F1 H1 σ x1 Kp.refl r1.pop⟩
end
noncomputable abbrev DG := D → DSt → Option DSt
noncomputable def rG (K : PySem.W.Frag) (g : DG) (W : List Nat) : TG := fun v σ H Q => ∃ F R σD d σD', Rel K F H σD σ ((d, v) :: R) ∧ g d σD = some σD' ∧ ∀ F' H' σ', Ext F H F' H' → Kp W σ σ' → Rel K F' H' σD' σ' R → Q σ' H'
noncomputable def QG (X : Cx) (tg : Expr) (g : DG) (W : List Nat) : Prop := PG X tg (rG X.K g W)
theorem PG_imp {X : Cx} {tg : Expr} {t t' : TG} (h : PG X tg t) (i : ∀ v σ H Q, t' v σ H Q → t v σ H Q) : PG X tg t' := fun pins s σ H v u Q I rv h' => h pins s σ H v u Q I rv (i v σ H Q h')
noncomputable abbrev DGs := List D → DSt → Option DSt
noncomputable def rGs (K : PySem.W.Frag) (g : DGs) (W : List Nat) : TGs := fun vs σ H Q => ∃ F R σD ds σD', ds.length = vs.length ∧ Rel K F H σD σ (ds.zip vs ++ R) ∧ g ds σD = some σD' ∧ ∀ F' H' σ', Ext F H F' H' → Kp W σ σ' → Rel K F' H' σD' σ' R → Q σ' H'
noncomputable def QGs (X : Cx) (ts : List Expr) (g : DGs) (W : List Nat) : Prop := PGs X ts (rGs X.K g W)
theorem PGs_imp {X : Cx} {ts : List Expr} {t t' : TGs} (h : PGs X ts t) (i : ∀ v σ H Q, t' v σ H Q → t v σ H Q) : PGs X ts t' := fun pins s σ H v u Q I rv h' => h pins s σ H v u Q I rv (i v σ H Q h')
noncomputable def gNm (i : Nat) : DG := fun d σ => if i < σ.length then some (σ.set i (some d)) else none
noncomputable def gNilD : DGs := fun ds σ => match ds with | [] => some σ | _ => none
noncomputable def gConsD (g : DG) (gs : DGs) : DGs := fun ds σ => match ds with | d :: r => (g d σ).bind fun σ' => gs r σ' | [] => none
noncomputable def gTupD (n : Nat) (gs : DGs) : DG := fun d σ => match d with | .tup xs => if xs.length = n then gs xs σ else none | _ => none
section
variable {X : Cx} {e tg : Expr} {ts : List Expr} {g : DG} {gs : DGs} {pos : Pos} {W W' : List Nat}
theorem qg_name (i : Nat) {x : Str} {pos : Pos} (hN : X.N.Nodup) (hi : autoParam (X.N[i]? = some x) Ax4._auto_1) (hx : autoParam (Loc X.env.scope x) Ax8._auto_1) (hf : autoParam (X.fn x = true ∨ X.env.scope.names.lookup x = some .local) Ax0._auto_1) :
  QG X (.Name x pos) (gNm i) [i] := PG_imp (pg_name hN hi hx hf) fun v σ H Q hq0 => by
 obtain ⟨F, R, σD, d, σD', r, ec, k⟩ := hq0
 unfold gNm at ec
 split at ec
 ·rename_i hl
  cases ec
  exact k F H _ Ext.refl Kp.set (r.store (by rw [← r.mt.length]; exact hl))
 ·cases ec
theorem qgs_nil : QGs X [] gNilD [] := PGs_imp pgs_nil fun vs σ H Q hq0 => by
 obtain ⟨F, R, σD, ds, σD', hl, r, ec, k⟩ := hq0
 cases ds with
 | nil => cases ec; exact ⟨List.length_eq_zero_iff.mp hl.symm, k F H σ Ext.refl Kp.refl (by simpa using r)⟩
 | cons d ds => cases ec
theorem qgs_cons (h1 : QG X e g W) (h2 : QGs X ts gs W') (hs : autoParam ((assignEach (e :: ts) X.env).map (·.2) = assign e X.env :: (assignEach ts X.env).map (·.2)) Ax4._auto_1) : QGs X (e :: ts) (gConsD g gs) (W ++ W') :=
 PGs_imp (pgs_cons h1 h2 hs) fun vs σ H Q hq0 => by
  obtain ⟨F, R, σD, ds, σD', hl, r, ec, k⟩ := hq0
  cases ds with
  | nil => cases ec
  | cons d ds =>
   cases vs with
   | nil => simp at hl
   | cons v vs =>
    simp only [gConsD] at ec
    rcases h : g d σD with _ | σ1
    ·rw [h] at ec; cases ec
    ·rw [h] at ec; simp only [bind_some] at ec
     refine ⟨v, vs, rfl, F, ds.zip vs ++ R, σD, d, σ1, by simpa using r, h, fun F1 H1 σ2 x1 kp1 r1 => ?_⟩
     exact ⟨F1, R, σ1, ds, σD', by simpa using hl, r1, ec, fun F2 H2 σ3 x2 kp2 r2 => k F2 H2 σ3 (x1.trans x2) ((kp1.mono fun k hk => by simp [hk]).trans (kp2.mono fun k hk => by simp [hk])) r2⟩
theorem qg_tup {n : Nat} {k : Nat} (hc : X.calm = true) (h : QGs X ts gs W) (hn : autoParam ((assignEach ts X.env).length = n) Ax4._auto_1) (hst : autoParam ((assignEach ts X.env).findIdx? (·.1) = none) Ax4._auto_1) : QG X (.Tuple ts k pos) (gTupD n gs) W :=
 PG_imp (pg_tup hc h hn hst) fun v σ H Q hq0 => by
  obtain ⟨F, R, σD, d, σD', r, ec, k⟩ := hq0
  unfold gTupD at ec
  split at ec
  ·rename_i xs
   split at ec
   ·rename_i hxn
    obtain ⟨a, vs, rfl, ft, hl, r1⟩ := r.openT
    exact ⟨a, vs, rfl, ft.sq, by rw [← hl]; exact hxn, F, R, σD, xs, σD', hl, r1, ec, k⟩
   ·cases ec
  ·cases ec
end
noncomputable def dLoop (g : DG) (b : DS) : List D → DSt → Option Out
 | [], σ => some (.nx σ)
 | x :: xs, σ => (g x σ).bind fun σ1 => (b σ1).bind fun o => match o with
  | .nx σ2 => dLoop g b xs σ2
  | .ct σ2 => dLoop g b xs σ2
  | .bk σ2 => some (.nx σ2)
  | .rt d σ2 => some (.rt d σ2)
noncomputable def rngD (lo hi : Int) : List D := (List.range (hi - lo).toNat).map fun (k : Nat) => D.int (lo + k)
noncomputable def rOk (i : Int) : Bool := decide (-(2 ^ 62) ≤ i ∧ i < 2 ^ 62)
section
variable {X : Cx} {e tg : Expr} {ts : List Expr} {g : DG} {c : DE} {s : DS} {pos : Pos} {W W' : List Nat} {body : List Stmt}
theorem turn_of {F0 F : Addr → Prop} {H0 H : Hp} {R R0 : Ro} {σD : DSt} {σ0 σ : St} {x : D} {v : V} {xs : List D} {En : Ends} {N : St → Hp → Prop} {o : Out} (hR : ∀ F' H', Ext F H F' H' → ∀ σD' σ' S, Rel X.K F' H' σD' σ' (S ++ R) → Rel X.K F' H' σD' σ' (S ++ R0))
  (r : Rel X.K F H σD σ ((x, v) :: R)) (x0 : Ext F0 H0 F H) (kp : Kp (W ++ W') σ0 σ) (h : dLoop g s (x :: xs) σD = some o)
  (k : ∀ F' H' σ', Ext F0 H0 F' H' → Kp (W ++ W') σ0 σ' → Th X.K En R0 F' H' σ' o)
  (hN : ∀ F' H' σD' σ', Ext F H F' H' → Kp (W ++ W') σ0 σ' → Rel X.K F' H' σD' σ' R → dLoop g s xs σD' = some o → N σ' H') :
  rG X.K g W v σ H fun σ2 H2 => rS X.K s W' { En with nx := N, ct := N, bk := En.nx } σ2 H2 := by
 simp only [dLoop] at h
 rcases h1 : g x σD with _ | σ1
 ·rw [h1] at h; cases h
 ·rw [h1] at h; simp only [bind_some] at h
  rcases h2 : s σ1 with _ | o1
  ·rw [h2] at h; cases h
  ·rw [h2] at h; simp only [bind_some] at h
   refine ⟨F, R, σD, x, σ1, r, h1, fun F1 H1 σ2 x1 kp1 r1 => ?_⟩
   refine ⟨F1, R, σ1, o1, r1, h2, fun F2 H2 σ3 x2 kp2 => ?_⟩
   have kp3 : Kp (W ++ W') σ0 σ3 := (kp.trans (kp1.mono fun k hk => by simp [hk])).trans (kp2.mono fun k hk => by simp [hk])
   cases o1 with
   | nx σ4 => exact fun r2 => hN F2 H2 σ4 σ3 (x1.trans x2) kp3 r2 h
   | ct σ4 => exact fun r2 => hN F2 H2 σ4 σ3 (x1.trans x2) kp3 r2 h
   | bk σ4 =>
    cases h
    exact fun r2 => k F2 H2 σ3 (x0.trans (x1.trans x2)) kp3 (hR F2 H2 (x1.trans x2) _ _ [] r2)
   | rt d σ4 =>
    cases h
    exact fun v r2 => k F2 H2 σ3 (x0.trans (x1.trans x2)) kp3 v (hR F2 H2 (x1.trans x2) _ _ [(d, v)] r2)
end
end DD
namespace DD
open PySem PySem.Spec PyProof.Rows L2
noncomputable abbrev GF := List D → Option (D × List D)
noncomputable def spD (K : PySem.W.Frag) (n : Nat) (g : GF) : Sp := fun vs H Q _ => vs.length = n ∧ ∃ F R ds r ds', ds.length = vs.length ∧ G K F H (ds.zip vs ++ R) ∧ g ds = some (r, ds') ∧
 ∀ F' H' v, Ext F H F' H' → ds'.length = vs.length → G K F' H' ((r, v) :: (ds'.zip vs ++ R)) → Q v H'
noncomputable def inD (W : List Nat) : Nat → List D → List D
 | _, [] => []
 | k, d :: ds => (if k ∈ W then d.fz else d) :: inD W (k + 1) ds
noncomputable def outD (W : List Nat) (σ : DSt) : Nat → List D → List D
 | _, [] => []
 | k, d :: ds => (if k ∈ W then d.fz else (dget σ k).getD .hole) :: outD W σ (k + 1) ds
noncomputable def gOf (N : Nat) (W : List Nat) (c : DS) : GF := fun ds => (c ((inD W 0 ds).map some ++ List.replicate (N - ds.length) none)).bind fun o => match o with
 | .rt d σ => some (d, outD W σ 0 ds)
 | .nx σ => some (.non, outD W σ 0 ds)
 | _ => none
section
variable {K : PySem.W.Frag} {F F' : Addr → Prop} {H H' : Hp}
noncomputable def frD (W : List Nat) : Nat → List D → List V → Ro
 | k, d :: ds, v :: vs => if k ∈ W then (d.fz, v) :: frD W (k + 1) ds vs else frD W (k + 1) ds vs
 | _, _, _ => []
theorem inD_length (W : List Nat) : ∀ (k : Nat) (ds : List D), (inD W k ds).length = ds.length
 | _, [] => rfl
 | k, d :: ds => by simp [inD, inD_length W (k + 1) ds]
theorem outD_length (W : List Nat) (σ : DSt) : ∀ (k : Nat) (ds : List D), (outD W σ k ds).length = ds.length
 | _, [] => rfl
 | k, d :: ds => by simp [outD, outD_length W σ (k + 1) ds]
theorem pull {α : Type} {x : α} {A B C : List α} : (A ++ (B ++ x :: C)).Perm (x :: (A ++ (B ++ C))) := ((List.perm_middle (a := x) (l₁ := B) (l₂ := C)).append_left A).trans List.perm_middle
theorem entry (W : List Nat) : ∀ {ds : List D} {vs : List V} {k : Nat} {F : Addr → Prop} {R : Ro}, ds.length = vs.length → G K F H (ds.zip vs ++ R) → ∃ F', Ext F H F' H ∧ G K F' H ((inD W k ds).zip vs ++ (frD W k ds vs ++ R))
 | [], [], _, F, R, _, g => ⟨F, Ext.refl, g⟩
 | d :: ds, v :: vs, k, F, R, hl, g => by
  have hl' : ds.length = vs.length := by simpa using hl
  have g0 : G K F H ((d, v) :: (ds.zip vs ++ R)) := by simpa using g
  by_cases hk : k ∈ W
  ·obtain ⟨F1, x1, g1, o1⟩ := g0.freeze
   have g2 : G K F1 H (ds.zip vs ++ ((d.fz, v) :: (d.fz, v) :: R)) := (g1.push o1).perm (((List.perm_middle).symm.cons _).trans (List.perm_middle).symm)
   obtain ⟨F2, x2, g3⟩ := entry W (k := k + 1) hl' g2
   refine ⟨F2, x1.trans x2, ?_⟩
   simp only [inD, frD, hk, if_true, List.zip_cons_cons]
   exact g3.perm (pull.trans ((List.perm_middle.append_left _).cons _))
  ·obtain ⟨F2, x2, g3⟩ := entry W (k := k + 1) (R := (d, v) :: R) hl' (g0.perm (List.perm_middle.symm))
   refine ⟨F2, x2, ?_⟩
   simp only [inD, frD, hk, if_false, List.zip_cons_cons]
   exact g3.perm pull
theorem dget_set_ne {σ : DSt} {i j : Nat} {o : Option D} (h : i ≠ j) : dget (σ.set i o) j = dget σ j := by
 unfold dget; rw [List.getElem?_set_ne h]
theorem outD_set (W : List Nat) {σ : DSt} {o : Option D} {i : Nat} : ∀ {k : Nat} {ds : List D}, i < k → outD W (σ.set i o) k ds = outD W σ k ds
 | _, [], _ => rfl
 | k, d :: ds, h => by simp only [outD]; rw [dget_set_ne (by omega), outD_set W (k := k + 1) (by omega)]
theorem exitP (W : List Nat) {σ : St} : ∀ {ds : List D} {vs : List V} {k : Nat} {σD : DSt} {R : Ro}, ds.length = vs.length → (∀ (j : Nat) v, vs[j]? = some v → k + j ∉ W → σ[k + j]? = some (some v)) →
  Rel K F H σD σ (frD W k ds vs ++ R) → ∃ σD2, Rel K F H σD2 σ ((outD W σD k ds).zip vs ++ R) := by
 intro ds
 induction ds with
 | nil =>
  intro vs k σD R hl hv r
  cases vs with
  | nil => exact ⟨σD, r⟩
  | cons _ _ => cases hl
 | cons d ds ih =>
  intro vs k σD R hl hv r
  cases vs with
  | nil => cases hl
  | cons v vs =>
   have hl' : ds.length = vs.length := by simpa using hl
   have hv' : ∀ (j : Nat) u, vs[j]? = some u → k + 1 + j ∉ W → σ[k + 1 + j]? = some (some u) := fun j u e h => by
    have q := hv (j + 1) u (by simpa using e) (by rw [show k + (j + 1) = k + 1 + j by omega]; exact h)
    rw [show k + (j + 1) = k + 1 + j by omega] at q; exact q
   by_cases hk : k ∈ W
   ·simp only [frD, hk, if_true] at r
    obtain ⟨σ2, r2⟩ := ih (k := k + 1) (R := (d.fz, v) :: R) hl' hv' (r.perm List.perm_middle.symm)
    refine ⟨σ2, ?_⟩
    simp only [outD, hk, if_true, List.zip_cons_cons]
    exact r2.perm List.perm_middle
   ·simp only [frD, hk, if_false] at r
    have e0 : σ[k]? = some (some v) := by simpa using hv 0 v rfl (by simpa using hk)
    rcases hd : dget σD k with _ | dk
    ·have r1 : Rel K F H σD σ ((.hole, v) :: (frD W (k + 1) ds vs ++ R)) := r.push (by simp only [Ow])
     obtain ⟨σ2, r2⟩ := ih (k := k + 1) (R := (.hole, v) :: R) hl' hv' (r1.perm List.perm_middle.symm)
     refine ⟨σ2, ?_⟩
     simp only [outD, hk, if_false, List.zip_cons_cons, hd, Option.getD_none]
     exact r2.perm List.perm_middle
    ·obtain ⟨v', hv1, r1⟩ := r.take (dget_some hd)
     rw [e0] at hv1; cases hv1
     obtain ⟨σ2, r2⟩ := ih (k := k + 1) (R := (dk, v) :: R) hl' hv' (r1.perm List.perm_middle.symm)
     refine ⟨σ2, ?_⟩
     simp only [outD, hk, if_false, List.zip_cons_cons, hd, Option.getD_some]
     rw [outD_set W (Nat.lt_succ_self k)] at r2
     exact r2.perm List.perm_middle
theorem sl_none' : ∀ {n : Nat} {σ : St}, sl (List.replicate n none) σ = []
 | 0, σ => by cases σ <;> rfl
 | n + 1, [] => rfl
 | n + 1, o :: σ => by rw [List.replicate_succ]; exact sl_none' (n := n) (σ := σ)
theorem sl_start : ∀ {ds : List D} {vs : List V} {n : Nat}, ds.length = vs.length → sl (ds.map some ++ List.replicate n none) (vs.map some ++ List.replicate n none) = ds.zip vs
 | [], [], n, _ => by simpa using sl_none'
 | d :: ds, v :: vs, n, h => by
  show (d, v) :: sl (ds.map some ++ List.replicate n none) (vs.map some ++ List.replicate n none) = _
  rw [sl_start (by simpa using h)]; rfl
theorem mt_none : ∀ {n : Nat}, Mt (List.replicate n none) (List.replicate n none)
 | 0 => trivial
 | n + 1 => by rw [List.replicate_succ, List.replicate_succ]; exact mt_none (n := n)
theorem mt_start : ∀ {ds : List D} {vs : List V} {n : Nat}, ds.length = vs.length → Mt (ds.map some ++ List.replicate n none) (vs.map some ++ List.replicate n none)
 | [], [], n, _ => by simpa using mt_none
 | d :: ds, v :: vs, n, h => mt_start (ds := ds) (vs := vs) (n := n) (by simpa using h)
end
section
variable {P : Program} {w : World} {K : PySem.W.Frag} {mg : Str → Option Value} {base : Heap}
theorem fn_D {x qual : Str} {st : Stmt} {f : Addr} {fd : FuncData} {N ps : List Str} {k : Nat} {W : List Nat} {c : DS} (F : Fun K x qual st f fd) (S : FnScope N ps (defScope st)) (hnp : ps.length ≤ N.length)
  (hbody : ∀ (cdv : Value) (A : Around) (outer : List Env) (s : Shared) (H : Hp) (E : XK), Room k (A.deeper (envOfC qual (defScope st) s.heap.objs.size f cdv)) →
   QSs (cxOf CX0 P w K mg base N qual (defScope st) f cdv A outer s H E).nox (defBody st) c W) :
  FnOk P w K mg base CX0 (k + 1) f fd ps (spD K ps.length (gOf N.length W c)) := by
 refine F.ok S (fun vs H Q E h => h.1) (fun cdv A outer s H vs Q E hr h => ?_)
 obtain ⟨hlen, F0, R, ds, r, ds', hl, g, eg, kk⟩ := h
 refine ⟨_, hbody cdv A outer s H E hr, ?_⟩
 show rS K c W _ _ _
 unfold gOf at eg
 obtain ⟨F1, x1, g1⟩ := entry W (k := 0) hl g
 have hl2 : (inD W 0 ds).length = vs.length := by rw [inD_length]; exact hl
 have est : L2.start N vs = vs.map some ++ List.replicate (N.length - ds.length) none := by unfold L2.start; rw [hl]
 have r0 : Rel K F1 H ((inD W 0 ds).map some ++ List.replicate (N.length - ds.length) none) (L2.start N vs) (frD W 0 ds vs ++ R) := by
  rw [est]
  exact ⟨mt_start hl2, by rw [sl_start hl2]; exact g1⟩
 rcases h : c ((inD W 0 ds).map some ++ List.replicate (N.length - ds.length) none) with _ | o
 ·rw [h] at eg; cases eg
 ·rw [h] at eg; simp only [bind_some] at eg
  refine ⟨F1, _, _, o, r0, h, fun F2 H2 σ2 x2 kp => ?_⟩
  have hv : ∀ (j : Nat) v, vs[j]? = some v → 0 + j ∉ W → σ2[0 + j]? = some (some v) := fun j v e hj => by
   rw [kp (0 + j) hj, Nat.zero_add, est]
   have hjl : j < vs.length := (List.getElem?_eq_some_iff.mp e).1
   rw [List.getElem?_append_left (by simpa using hjl)]
   simp [e]
  cases o with
  | nx σ3 =>
   cases eg
   intro r3
   obtain ⟨σ4, r4⟩ := exitP W (k := 0) hl hv r3
   exact kk F2 H2 .non (x1.trans x2) (by rw [outD_length]; exact hl) ((r4.scal (d := .non) (w := .non) rfl).g.popN)
  | rt d σ3 =>
   cases eg
   intro v r3
   obtain ⟨σ4, r4⟩ := exitP W (k := 0) (R := (_, v) :: R) hl hv (r3.perm List.perm_middle.symm)
   exact kk F2 H2 v (x1.trans x2) (by rw [outD_length]; exact hl) ((r4.perm List.perm_middle).g.popN)
  | bk σ3 => cases eg
  | ct σ3 => cases eg
end
inductive Arg where
 | bo (i : Nat) | ex (c : DE)
noncomputable def evM : List Arg → DSt → Option (List (Option D) × DSt)
 | [], σ => some ([], σ)
 | .bo i :: as, σ => (dget σ i).bind fun _ => (evM as σ).map fun p => (none :: p.1, p.2)
 | .ex c :: as, σ => (c σ).bind fun q => (evM as q.2).map fun p => (some q.1 :: p.1, p.2)
noncomputable def fillM : List Arg → List (Option D) → DSt → Option (List D × DSt)
 | .bo i :: as, none :: os, σ => (dget σ i).bind fun d => match d.sc with
  | some _ => (fillM as os σ).map fun p => (d :: p.1, p.2)
  | none => (fillM as os (σ.set i none)).map fun p => (d :: p.1, p.2)
 | .ex _ :: as, some d :: os, σ => (fillM as os σ).map fun p => (d :: p.1, p.2)
 | [], [], σ => some ([], σ)
 | _, _, _ => none
noncomputable def backM : List Arg → List D → DSt → DSt
 | .bo i :: as, d :: ds, σ => match d.sc with
  | some _ => backM as ds σ
  | none => backM as ds (σ.set i (some d))
 | .ex _ :: as, _ :: ds, σ => backM as ds σ
 | _, _, σ => σ
noncomputable def dCall (g : GF) (as : List Arg) : DE := fun σ => (evM as σ).bind fun p => (fillM as p.1 p.2).bind fun q => (g q.1).map fun r => (r.1, backM as r.2 q.2)
noncomputable def OkM : List Arg → List (Option D) → List V → St → Prop
 | .bo i :: as, none :: os, v :: vs, σ => σ[i]? = some (some v) ∧ OkM as os vs σ
 | .ex _ :: as, some _ :: os, _ :: vs, σ => OkM as os vs σ
 | [], [], [], _ => True
 | _, _, _, _ => False
noncomputable def tz : List (Option D) → List V → Ro
 | none :: os, _ :: vs => tz os vs
 | some d :: os, v :: vs => (d, v) :: tz os vs
 | _, _ => []
noncomputable def rM (K : PySem.W.Frag) (as : List Arg) : TA := fun σ H Q => ∃ F R σD os σD', Rel K F H σD σ R ∧ evM as σD = some (os, σD') ∧ ∀ F' H' vs, Ext F H F' H' → OkM as os vs σ → Rel K F' H' σD' σ (tz os vs ++ R) → Q vs H'
noncomputable def QM (X : Cx) (es : List Expr) (as : List Arg) : Prop := PA X es (rM X.K as)
section
variable {X : Cx} {e : Expr} {es : List Expr} {as : List Arg} {c : DE}
theorem qm_nil : QM X [] [] := PA_imp pa_nil fun σ H Q hq0 => by
 obtain ⟨F, R, σD, os, σD', r, ec, k⟩ := hq0
 cases ec; exact k F H [] Ext.refl trivial r
theorem qm_ex (ha : QE X e c) (hr : QM X es as) (hs : autoParam (starEach (e :: es) X.env = (false, eval e X.env) :: starEach es X.env) Ax4._auto_1) : QM X (e :: es) (.ex c :: as) := PA_imp (pa_cons ha hr hs) fun σ H Q hq0 => by
 obtain ⟨F, R, σD, os, σD', r, ec, k⟩ := hq0
 simp only [evM] at ec
 rcases h1 : c σD with _ | ⟨x, σ1⟩
 ·rw [h1] at ec; cases ec
 ·rw [h1] at ec; simp only [bind_some] at ec
  obtain ⟨⟨os2, σ2⟩, e2, e3⟩ := map_pair ec
  cases e3
  refine ⟨F, R, σD, x, σ1, r, h1, fun F1 H1 v x1 r1 => ?_⟩
  refine ⟨F1, _, σ1, os2, σ2, r1, e2, fun F2 H2 vs x2 ok r2 => ?_⟩
  exact k F2 H2 (v :: vs) (x1.trans x2) ok (r2.perm List.perm_middle)
theorem qm_bo (i : Nat) {x : Str} {pos : Pos} (hr : QM X es as) (hN : autoParam (X.N[i]? = some x) Ax4._auto_1) (hv : autoParam (Vis X.env.scope x) Ax6._auto_1) (hd : autoParam ((x == ("__debug__" : Str)) = false) Ax1._auto_1)
  (hcd : autoParam ((x == ("__classdict__" : Str)) = false) Ax1._auto_1) (hs : autoParam (starEach (.Name x pos :: es) X.env = (false, eval (.Name x pos) X.env) :: starEach es X.env) Ax4._auto_1) : QM X (.Name x pos :: es) (.bo i :: as) :=
 PA_imp (pa_cons (pe_var hN hv hd hcd) hr hs) fun σ H Q hq0 => by
  obtain ⟨F, R, σD, os, σD', r, ec, k⟩ := hq0
  simp only [evM] at ec
  rcases h1 : dget σD i with _ | d
  ·rw [h1] at ec; cases ec
  ·rw [h1] at ec; simp only [bind_some] at ec
   obtain ⟨⟨os2, σ2⟩, e2, e3⟩ := map_pair ec
   cases e3
   obtain ⟨v, hv, b⟩ := r.get (dget_some h1)
   refine ⟨v, hv, F, R, σD, os2, σ2, r, e2, fun F2 H2 vs x2 ok r2 => ?_⟩
   exact k F2 H2 (v :: vs) x2 ⟨hv, ok⟩ r2
variable {K : PySem.W.Frag} {F F' : Addr → Prop} {H H' : Hp}
theorem fill_ok : ∀ {as : List Arg} {os : List (Option D)} {vs : List V} {σ : St} {σD : DSt} {R : Ro} {ds : List D} {σD' : DSt}, OkM as os vs σ → fillM as os σD = some (ds, σD') → Rel K F H σD σ (tz os vs ++ R) →
  ds.length = vs.length ∧ Rel K F H σD' σ (ds.zip vs ++ R) := by
 intro as
 induction as with
 | nil =>
  intro os vs σ σD R ds σD' ok e r
  cases os with
  | nil => cases vs with
   | nil => simp only [fillM] at e; cases e; exact ⟨rfl, r⟩
   | cons _ _ => exact ok.elim
  | cons _ _ => exact ok.elim
 | cons a as ih =>
  intro os vs σ σD R ds σD' ok e r
  cases os with
  | nil => cases a <;> exact ok.elim
  | cons o os => cases vs with
   | nil => cases a <;> cases o <;> exact ok.elim
   | cons v vs => cases a with
    | bo i => cases o with
     | some _ => exact ok.elim
     | none =>
      obtain ⟨hv, ok⟩ := ok
      simp only [fillM] at e
      rcases h1 : dget σD i with _ | d
      ·rw [h1] at e; cases e
      ·rw [h1] at e; simp only [bind_some] at e
       obtain ⟨v', hv1, r1⟩ := r.take (dget_some h1)
       rw [hv] at hv1; cases hv1
       rcases hs : d.sc with _ | wv
       ·rw [hs] at e
        obtain ⟨⟨ds2, σ2⟩, e2, e3⟩ := map_pair e
        cases e3
        obtain ⟨l, r2⟩ := ih (R := (d, v) :: R) ok e2 (r1.perm List.perm_middle.symm)
        exact ⟨by simp [l], r2.perm List.perm_middle⟩
       ·rw [hs] at e
        obtain ⟨⟨ds2, σ2⟩, e2, e3⟩ := map_pair e
        cases e3
        have ev : v = wv := (r1.bor (by simp)).sc hs
        subst ev
        obtain ⟨l, r2⟩ := ih (R := R) ok e2 r
        exact ⟨by simp [l], r2.scal hs⟩
    | ex _ => cases o with
     | none => exact ok.elim
     | some d =>
      simp only [fillM] at e
      obtain ⟨⟨ds2, σ2⟩, e2, e3⟩ := map_pair e
      cases e3
      obtain ⟨l, r2⟩ := ih (os := os) (vs := vs) (R := (d, v) :: R) ok e2 (r.perm (List.perm_middle (l₁ := tz os vs)).symm)
      exact ⟨by simp [l], r2.perm List.perm_middle⟩
theorem back_ok : ∀ {as : List Arg} {os : List (Option D)} {vs : List V} {σ : St} {σD : DSt} {R : Ro} {ds : List D}, OkM as os vs σ → ds.length = vs.length → Rel K F H σD σ (ds.zip vs ++ R) → Rel K F H (backM as ds σD) σ R := by
 intro as
 induction as with
 | nil =>
  intro os vs σ σD R ds ok l r
  cases os with
  | nil => cases vs with
   | nil => cases ds with
    | nil => exact r
    | cons _ _ => cases l
   | cons _ _ => exact ok.elim
  | cons _ _ => exact ok.elim
 | cons a as ih =>
  intro os vs σ σD R ds ok l r
  cases os with
  | nil => cases a <;> exact ok.elim
  | cons o os => cases vs with
   | nil => cases a <;> cases o <;> exact ok.elim
   | cons v vs => cases ds with
    | nil => cases l
    | cons d ds =>
     have l' : ds.length = vs.length := by simpa using l
     cases a with
     | bo i => cases o with
      | some _ => exact ok.elim
      | none =>
       obtain ⟨hv, ok⟩ := ok
       simp only [backM]
       rcases hs : d.sc with _ | wv
       ·exact ih ok l' (Rel.put (R := ds.zip vs ++ R) r hv)
       ·exact ih ok l' (Rel.pop (R := ds.zip vs ++ R) r)
     | ex _ => cases o with
      | none => exact ok.elim
      | some d' => exact ih (os := os) ok l' (Rel.pop (R := ds.zip vs ++ R) r)
theorem OkM.length : ∀ {as : List Arg} {os : List (Option D)} {vs : List V} {σ : St}, OkM as os vs σ → vs.length = as.length := by
 intro as
 induction as with
 | nil =>
  intro os vs σ ok
  cases os with
  | nil => cases vs with
   | nil => rfl
   | cons _ _ => exact ok.elim
  | cons _ _ => exact ok.elim
 | cons a as ih =>
  intro os vs σ ok
  cases os with
  | nil => cases a <;> exact ok.elim
  | cons o os => cases vs with
   | nil => cases a <;> cases o <;> exact ok.elim
   | cons v vs => cases a with
    | bo i => cases o with
     | some _ => exact ok.elim
     | none => exact congrArg (· + 1) (ih (os := os) (vs := vs) ok.2)
    | ex _ => cases o with
     | none => exact ok.elim
     | some _ => exact congrArg (· + 1) (ih (os := os) (vs := vs) (σ := σ) ok)
theorem rCall {n : Nat} {g : GF} {E : XK} {σ : St} {H : Hp} {Q : VK} (hn : as.length = n) (h : rE K (dCall g as) σ H Q) : tCall (spD K n g) [] E (rM K as) σ H Q := by
 obtain ⟨F, R, σD, d, σD', r, ec, k⟩ := h
 unfold dCall at ec
 rcases h1 : evM as σD with _ | ⟨os, σ1⟩
 ·rw [h1] at ec; cases ec
 ·rw [h1] at ec; simp only [bind_some] at ec
  rcases h2 : fillM as os σ1 with _ | ⟨ds, σ2⟩
  ·rw [h2] at ec; cases ec
  ·rw [h2] at ec; simp only [bind_some] at ec
   obtain ⟨⟨d', ds'⟩, e2, e3⟩ := map_pair ec
   cases e3
   refine ⟨F, R, σD, os, σ1, r, h1, fun F1 H1 vs x1 ok r1 => ?_⟩
   obtain ⟨l, r2⟩ := fill_ok ok h2 r1
   have lv : vs.length = n := by rw [← hn]; exact ok.length
   refine ⟨by simpa using lv, F1, sl σ2 σ ++ R, ds, _, ds', by simpa using l, ?_, e2, fun F2 H2 v x2 l2 g2 => ?_⟩
   ·rw [List.append_nil]
    exact r2.g.perm (by rw [← List.append_assoc, ← List.append_assoc]; exact List.perm_append_comm.append_right R)
   ·refine k F2 H2 v (x1.trans x2) ?_
    rw [List.append_nil] at l2 g2
    refine back_ok (R := (_, v) :: R) ok l2 ⟨r2.mt, g2.perm ?_⟩
    exact ((pull (x := (_, v)) (A := sl σ2 σ) (B := ds'.zip vs) (C := R)).trans ((List.perm_append_comm_assoc _ _ _).cons _)).symm
theorem qe_call {k : Nat} {f : Addr} {fd : FuncData} {ps : List Str} {g : GF} {x : Str} {p pos : Pos} (F : FnOk X.prog X.w X.K X.mg X.base CX0 k f fd ps (spD X.K ps.length g)) (hr : Room k X.A) (hg : Gl X x) (hm : X.mg x = some (.ref f)) (hk : PySem.W.keepIn X.K (.ref f) = true) (hb : Binds X.K fd ps [])
  (ha : QM X (e :: es) as) (hn : autoParam (as.length = ps.length) Ax4._auto_1) (hdb : autoParam ((x == ("__debug__" : Str)) = false) Ax1._auto_1) (he : autoParam (starEach (e :: es) X.env = (false, eval e X.env) :: starEach es X.env) Ax4._auto_1) (hpl : autoParam ((backTo pos (starEach es X.env)).any (·.1) = false) Ax4._auto_1) :
  QE X (.Call (.Name x p) (e :: es) [] pos) (dCall g as) := PE_imp (pe_call (E := E0) F hr hg hm hk hb .nil pass0 ha hdb he hpl) fun _ _ _ h => rCall hn h
end
end DD
namespace L2
open PySem PySem.Spec PyProof.Rows
theorem cf_own : ∀ (names : List (Str × NameKind)) (n : Nat) (acc : List (Str × Addr)), ∃ own, cellsFrom n names acc = own ++ acc ∧ (∀ p ∈ own, n ≤ p.2 ∧ (p.1, NameKind.cell) ∈ names) ∧
  (∀ x, (x, NameKind.cell) ∈ names → ∃ c, (x, c) ∈ own) ∧ own.Pairwise fun x y => x.2 ≠ y.2
 | [], n, acc => ⟨[], rfl, (fun _ h => by cases h), (fun _ h => by cases h), List.Pairwise.nil⟩
 | (name, kind) :: r, n, acc => by
  unfold cellsFrom
  by_cases hk : kind = .cell
  ·subst hk
   obtain ⟨own, e, h1, h2, h3⟩ := cf_own r (n + 1) ((name, n) :: acc)
   refine ⟨own ++ [(name, n)], ?_, ?_, ?_, ?_⟩
   ·rw [if_pos (by decide), e, List.append_assoc]; rfl
   ·intro p hp
    rcases List.mem_append.mp hp with hp | hp
    ·exact ⟨Nat.le_of_succ_le (h1 p hp).1, List.mem_cons_of_mem _ (h1 p hp).2⟩
    ·rw [List.mem_singleton.mp hp]; exact ⟨Nat.le_refl _, List.mem_cons_self⟩
   ·intro x hx
    rcases List.mem_cons.mp hx with hx | hx
    ·cases hx; exact ⟨n, List.mem_append_right _ List.mem_cons_self⟩
    ·obtain ⟨c, hc⟩ := h2 x hx; exact ⟨c, List.mem_append_left _ hc⟩
   ·refine List.pairwise_append.mpr ⟨h3, List.pairwise_singleton _ _, fun a ha b hb e => ?_⟩
    rw [List.mem_singleton.mp hb] at e
    have h5 := (h1 a ha).1
    rw [show a.2 = n from e] at h5
    exact absurd h5 (Nat.not_succ_le_self n)
  ·obtain ⟨own, e, h1, h2, h3⟩ := cf_own r n acc
   have hk' : (kind == NameKind.cell) = false := by cases kind <;> first | rfl | exact absurd rfl hk
   refine ⟨own, by rw [hk']; exact e, fun p hp => ⟨(h1 p hp).1, List.mem_cons_of_mem _ (h1 p hp).2⟩, fun x hx => ?_, h3⟩
   rcases List.mem_cons.mp hx with hx | hx
   ·cases hx; exact absurd rfl hk
   ·exact h2 x hx
theorem closure_ok {scope : Scope} {env : Env} (h : ∀ x, (x, NameKind.free) ∈ scope.names → ∃ c, env.cells.lookup x = some c) :
  ∃ cl, closureFor scope env = pure cl ∧ (∀ p ∈ cl, env.cells.lookup p.1 = some p.2) ∧ ∀ x, (x, NameKind.free) ∈ scope.names → ∃ c, (x, c) ∈ cl := by
 have all : ∀ (names : List (Str × NameKind)) (acc : List (Str × Addr)), (∀ x, (x, NameKind.free) ∈ names → ∃ c, env.cells.lookup x = some c) → (∀ p ∈ acc, env.cells.lookup p.1 = some p.2) →
   ∃ cl, (forIn (m := Sem) names acc fun (p : Str × NameKind) (cs : List (Str × Addr)) => if (p.2 == NameKind.free) = true then do let __do_lift ← cellOf env p.1; pure (ForInStep.yield ((p.1, __do_lift) :: cs)) else pure (ForInStep.yield cs)) = pure cl ∧
    (∀ p ∈ cl, env.cells.lookup p.1 = some p.2) ∧ (∀ p ∈ acc, p ∈ cl) ∧ ∀ x, (x, NameKind.free) ∈ names → ∃ c, (x, c) ∈ cl := by
  intro names
  induction names with
  | nil => intro acc _ ha; exact ⟨acc, by rw [List.forIn_nil], ha, fun _ h => h, (fun _ h => by cases h)⟩
  | cons p r ih =>
   obtain ⟨name, kind⟩ := p
   intro acc hn ha
   by_cases hk : kind = .free
   ·subst hk
    obtain ⟨c, hc⟩ := hn name List.mem_cons_self
    obtain ⟨cl, e, h1, h2, h3⟩ := ih ((name, c) :: acc) (fun x hx => hn x (List.mem_cons_of_mem _ hx)) (fun p hp => by
     rcases List.mem_cons.mp hp with rfl | hp
     ·exact hc
     ·exact ha p hp)
    refine ⟨cl, ?_, h1, fun p hp => h2 p (List.mem_cons_of_mem _ hp), fun x hx => ?_⟩
    ·rw [List.forIn_cons]
     have ec : cellOf env name = pure c := by unfold cellOf; rw [hc]
     simp only [ec]
     exact e
    ·rcases List.mem_cons.mp hx with hx | hx
     ·cases hx; exact ⟨c, h2 _ List.mem_cons_self⟩
     ·exact h3 x hx
   ·obtain ⟨cl, e, h1, h2, h3⟩ := ih acc (fun x hx => hn x (List.mem_cons_of_mem _ hx)) ha
    have hk' : (kind == NameKind.free) = false := by cases kind <;> first | rfl | exact absurd rfl hk
    refine ⟨cl, ?_, h1, h2, fun x hx => ?_⟩
    ·rw [List.forIn_cons]; simp only [hk', Bool.false_eq_true, if_false]; exact e
    ·rcases List.mem_cons.mp hx with hx | hx
     ·cases hx; exact absurd rfl hk
     ·exact h3 x hx
 obtain ⟨cl, e, h1, _, h3⟩ := all scope.names [] h (fun _ h => by cases h)
 refine ⟨cl, ?_, h1, h3⟩
 simp only [closureFor]
 rw [e]
 rfl
theorem nfe_comp {M : Model} {A : Around} {E : Value → Shared → Prop} {s : Shared} {scope : Scope} {env : Env} {cl : List (Str × Addr)} {Q : Env → Shared → Prop}
  (hQ : Q (newEnv scope s.heap.objs.size env.globals (cellsFrom (s.heap.objs.size + 1) scope.names cl) env.qual none .none (some env) builtinsNs) { s with heap := pushCells (s.heap.push { cls := .type "dict", data := .dict #[] }) scope.names }) :
  wpAny M A (newFunctionEnv scope env.globals cl [] env.qual none .none (some env)) Q E s := by
 simp only [newFunctionEnv, Option.isSome_some, if_true]
 refine wpAny_bind (wpAny_alloc ?_)
 refine wpAny_bind (wpAny_layCells _ (fun name kind cells => by cases hkc : kind == NameKind.cell <;> simp [hkc]) _ _ _ _ ?_)
 rw [show ({ s with heap := s.heap.push { cls := .type "dict", data := .dict #[] } } : Shared).heap.objs.size = s.heap.objs.size + 1 from Heap.size_push ..]
 refine wpAny_bind ?_
 rw [List.forIn_nil]
 exact wpAny_pure (wpAny_pure hQ)
noncomputable def cyOf (X : Cx) (N' : List Str) (scope : Scope) (cl : List (Str × Addr)) (s : Shared) (H : Hp) (fp : List Addr) (pins : List (Addr × Obj)) : Cx :=
 { X with N := N', s₀ := s, H₀ := H, env := compEnvC scope (cellsFrom (s.heap.objs.size + 1) scope.names cl) s.heap.objs.size X.env, outer := X.stack, stack := X.stack, ex := fp,
          fn := fun x => scope.names.lookup x == some .cell, pn := X.pn ++ pins, xe := fun _ _ => False }
structure CyOk (X : Cx) (N' : List Str) (scope : Scope) : Prop where
 kind : scope.kind = .function
 nd : (scope.names.map (·.1)).Nodup
 len : X.N.length ≤ N'.length
 free : ∀ x, (x, NameKind.free) ∈ scope.names → X.env.kindOf x = some .cell ∨ X.env.kindOf x = some .free
 same : ∀ i x, i < X.N.length → N'[i]? = some x → (x, NameKind.free) ∈ scope.names → X.N[i]? = some x
 hid : ∀ i x, i < X.N.length → N'[i]? = some x → (∃ k, (x, k) ∈ scope.names) → (x, NameKind.free) ∈ scope.names
theorem lookup_mem {α : Type} : ∀ {l : List (Str × α)} {x : Str} {k : α}, (l.map (·.1)).Nodup → (x, k) ∈ l → l.lookup x = some k
 | (y, j) :: r, x, k, nd, h => by
  rw [List.map_cons, List.nodup_cons] at nd
  rcases List.mem_cons.mp h with h | h
  ·cases h; rw [List.lookup_cons]; simp
  ·have ne : x ≠ y := fun e => nd.1 (e ▸ List.mem_map_of_mem (f := (·.1)) h)
   rw [List.lookup_cons]
   have : (x == y) = false := by simpa using ne
   rw [this]
   exact lookup_mem nd.2 h
theorem lookup_ex {α : Type} : ∀ {l : List (Str × α)} {x : Str} {k : α}, (x, k) ∈ l → ∃ k', l.lookup x = some k'
 | (y, j) :: r, x, k, h => by
  rw [List.lookup_cons]
  cases hb : x == y with
  | true => exact ⟨j, rfl⟩
  | false =>
   rcases List.mem_cons.mp h with h | h
   ·cases h; simp at hb
   ·exact lookup_ex h
theorem relabel_mem {scope : Scope} {env : Env} {x : Str} {k : NameKind} (h : (relabel scope env).names.lookup x = some k) : (x, k) ∈ scope.names ∨ ((x, NameKind.free) ∈ scope.names ∧ k = .cell) := by
 have h1 := mem_of_lookup h
 unfold relabel at h1
 obtain ⟨⟨n, j⟩, hm, e⟩ := List.mem_map.mp h1
 dsimp only at e
 split at e
 ·rename_i hc
  cases e
  refine .inr ⟨?_, rfl⟩
  have : j = .free := by
   cases j <;> simp at hc <;> rfl
  subst this; exact hm
 ·cases e; exact .inl hm
theorem lookup_append {α : Type} {a b : List (Str × α)} {x : Str} (h : ∀ p ∈ a, p.1 ≠ x) : (a ++ b).lookup x = b.lookup x := by
 induction a with
 | nil => rfl
 | cons p r ih =>
  obtain ⟨y, j⟩ := p
  rw [List.cons_append, List.lookup_cons]
  have : (x == y) = false := by
   have := h (y, j) List.mem_cons_self
   simpa using fun e : x = y => this e.symm
  rw [this]
  exact ih fun p hp => h p (List.mem_cons_of_mem _ hp)
section
variable {X : Cx} {N' : List Str} {scope : Scope} {cl : List (Str × Addr)} {s : Shared} {H : Hp} {fp : List Addr} {pins : List (Addr × Obj)} {σ : St}
theorem cy_start (T : CyOk X N' scope) (I : Inv X pins σ H s) (hcl : ∀ p ∈ cl, X.env.cells.lookup p.1 = some p.2) (hfr : ∀ x, (x, NameKind.free) ∈ scope.names → ∃ c, (x, c) ∈ cl)
  (hf : ∀ b ∈ fp, FpOk X pins H b) (ho : ∀ b ∈ fp, ∃ o, s.heap.get? b = some o) :
  Inv (cyOf X N' scope cl s H fp pins) [] (σ ++ List.replicate (N'.length - X.N.length) none) H { s with heap := pushCells (s.heap.push { cls := .type "dict", data := .dict #[] }) scope.names } := by
 obtain ⟨own, eo, o1, o2, o3⟩ := cf_own scope.names (s.heap.objs.size + 1) cl
 have keep : ∀ b o, s.heap.get? b = some o → (pushCells (s.heap.push { cls := .type "dict", data := .dict #[] }) scope.names).get? b = some o := fun b o e => pushCells_keeps _ _ b o (Heap.get?_push_of_some _ e)
 have clt : ∀ x c, (x, c) ∈ cl → c < s.heap.objs.size := fun x c h => by
  obtain ⟨v, z⟩ := I.cell x c (hcl _ h)
  exact z.lt
 -- what a cell of the block is
 have cases_ : ∀ x c, (own ++ cl).lookup x = some c → (s.heap.objs.size + 1 ≤ c ∧ (x, c) ∈ own) ∨ X.env.cells.lookup x = some c := fun x c h => by
  rcases List.mem_append.mp (mem_of_lookup h) with h | h
  ·exact .inl ⟨(o1 _ h).1, h⟩
  ·exact .inr (hcl _ h)
 have hst : ∀ b ∈ fp, b ∉ frs X.stack := fun b hb z => by
  rcases List.mem_cons.mp (I.stkSub b z) with e | e
  ·exact (hf b hb).2.1 e
  ·exact (hf b hb).2.2.1 e
 have okc : CellsOk (pushCells (s.heap.push { cls := .type "dict", data := .dict #[] }) scope.names) (s.heap.objs.size + 1) (cellsFrom (s.heap.objs.size + 1) scope.names []) := by
  have q := cellsFrom_ok scope.names (s.heap.push { cls := .type "dict", data := .dict #[] }) (s.heap.objs.size + 1) [] ⟨(fun _ _ hm => by cases hm), List.Pairwise.nil⟩ (by rw [Heap.size_push]; exact Nat.le_refl _)
  rw [Heap.size_push] at q
  exact q
 have eown : cellsFrom (s.heap.objs.size + 1) scope.names [] = own := by
  obtain ⟨own', e', _⟩ := cf_own scope.names (s.heap.objs.size + 1) []
  have gen : ∀ (names : List (Str × NameKind)) (n : Nat) (acc : List (Str × Addr)), cellsFrom n names acc = cellsFrom n names [] ++ acc := by
   intro names
   induction names with
   | nil => intro n acc; rfl
   | cons p r ih =>
    obtain ⟨name, kind⟩ := p
    intro n acc
    unfold cellsFrom
    split
    ·rw [ih (n + 1) ((name, n) :: acc), ih (n + 1) [(name, n)], List.append_assoc]; rfl
    ·exact ih n acc
  have := gen scope.names (s.heap.objs.size + 1) cl
  rw [eo] at this
  exact (List.append_cancel_right this).symm
 have ok : (cyOf X N' scope cl s H fp pins).Ok := by
  refine ⟨I.ok.mod, T.kind, I.ok.glob, I.ok.blt, Nat.le_refl _, fun x y c h1 h2 => ?_, fun x h => ?_, fun x c h1 h2 => ?_, I.ok.hd, I.ok.frames, .inl rfl, fun b hb => ⟨?_, fun x c h => ?_⟩, I.bs, Nat.le_trans I.ok.bsz I.sz, fun b o e hb => ?_, hst, I.stack, I.stkFree⟩
  ·have h1 : (own ++ cl).lookup x = some c := eo ▸ h1
   have h2 : (own ++ cl).lookup y = some c := eo ▸ h2
   rcases cases_ x c h1 with ⟨l1, m1⟩ | e1
   ·rcases cases_ y c h2 with ⟨l2, m2⟩ | e2
    ·exact name_of_addr o3 m1 m2
    ·obtain ⟨v, z⟩ := I.cell y c e2
     exact absurd (Nat.lt_of_lt_of_le z.lt (Nat.le_of_succ_le (by first | exact l2 | exact l1))) (Nat.lt_irrefl _)
   ·rcases cases_ y c h2 with ⟨l2, m2⟩ | e2
    ·obtain ⟨v, z⟩ := I.cell x c e1
     exact absurd (Nat.lt_of_lt_of_le z.lt (Nat.le_of_succ_le (by first | exact l2 | exact l1))) (Nat.lt_irrefl _)
    ·exact I.ok.inj x y c e1 e2
  ·show ∃ c, (cellsFrom (s.heap.objs.size + 1) scope.names cl).lookup x = some c
   rw [eo]
   have fromFree : (x, NameKind.free) ∈ scope.names → ∃ c, (own ++ cl).lookup x = some c := fun hm => by
    obtain ⟨c, hc⟩ := hfr x hm
    exact lookup_ex (List.mem_append_right own hc)
   have fromCell : (x, NameKind.cell) ∈ scope.names → ∃ c, (own ++ cl).lookup x = some c := fun hm => by
    obtain ⟨c, hc⟩ := o2 x hm
    exact lookup_ex (List.mem_append_left cl hc)
   rcases h with h | h
   ·rcases relabel_mem h with h | ⟨h, _⟩
    ·exact fromCell h
    ·exact fromFree h
   ·rcases relabel_mem h with h | ⟨h, e⟩
    ·exact fromFree h
    ·cases e
  ·have h2 : (own ++ cl).lookup x = some c := eo ▸ h2
   have hc : scope.names.lookup x = some .cell := by
    have : (scope.names.lookup x == some NameKind.cell) = true := h1
    simpa using this
   rcases cases_ x c h2 with ⟨l1, m1⟩ | e1
   ·exact Nat.le_of_succ_le l1
   ·-- x is one of the block's own: its cell stands ahead
    obtain ⟨c', hc'⟩ := o2 x (mem_of_lookup hc)
    obtain ⟨c2, hc2⟩ := lookup_ex hc'
    have : (own ++ cl).lookup x = some c2 := by
     have gen : ∀ l : List (Str × Addr), l.lookup x = some c2 → (l ++ cl).lookup x = some c2 := by
      intro l
      induction l with
      | nil => intro h; cases h
      | cons p r ih =>
       obtain ⟨y, j⟩ := p
       intro h
       rw [List.cons_append, List.lookup_cons]
       rw [List.lookup_cons] at h
       cases hb : x == y with
       | true => rw [hb] at h; exact h
       | false => rw [hb] at h; exact ih h
     exact gen own hc2
    rw [this] at h2
    cases h2
    exact Nat.le_of_succ_le (o1 _ (mem_of_lookup hc2)).1
  ·obtain ⟨o, e⟩ := ho b hb
   exact Nat.ne_of_lt (Heap.lt_size e)
  ·have h : (own ++ cl).lookup x = some c := eo ▸ h
   obtain ⟨o, e⟩ := ho b hb
   have hlt := Heap.lt_size e
   rcases cases_ x c h with ⟨l1, m1⟩ | e1
   ·intro z
    rw [z] at l1
    exact absurd (Nat.lt_of_lt_of_le hlt (Nat.le_of_succ_le l1)) (Nat.lt_irrefl _)
   ·exact (hf b hb).2.2.2.2.1 x c e1
  ·rcases (hf b hb).2.2.2.1 with z | z
   ·exact I.ok.noex b o e z
   ·exact absurd (Nat.lt_of_lt_of_le (Heap.lt_size e) (Nat.le_trans I.ok.bsz z)) (Nat.lt_irrefl _)
 refine ⟨ok, rfl, I.bare, Un.kept keep, ⟨fun _ => none, (Heap.Ns.new s.heap (.type "dict")).keeps (pushCells_keeps _ _), fun i x v e1 e2 e3 => ?_⟩, fun x c h => ?_, I.hok.fresh (Nat.le_refl _), fun x c h => ?_, fun p hp => ?_, I.hok.kept keep, ?_⟩
 ·-- a name of the code around
  have hlen := I.len
  have hi : i < σ.length := by
   rcases Nat.lt_or_ge i σ.length with h | h
   ·exact h
   ·rw [List.getElem?_append_right h] at e2
    rw [List.getElem?_replicate] at e2
    split at e2 <;> cases e2
  rw [List.getElem?_append_left hi] at e2
  have hmem : ∃ k, (x, k) ∈ scope.names := by
   have : ∃ k, (relabel scope X.env).names.lookup x = some k := by
    rcases e3 with h | h | h <;> exact ⟨_, h⟩
   obtain ⟨k, h⟩ := this
   rcases relabel_mem h with h | ⟨h, _⟩ <;> exact ⟨_, h⟩
  have hfree := T.hid i x (by omega) e1 hmem
  have eX := T.same i x (by omega) e1 hfree
  have kX := T.free x hfree
  obtain ⟨m, hn, hl⟩ := I.loc
  obtain ⟨u, ru, lk⟩ := hl i x v eX e2 (by rcases kX with h | h; exact .inr (.inl h); exact .inr (.inr h))
  refine ⟨u, ru, .inr ⟨?_, ?_⟩⟩
  ·-- its kind in the block
   have : ∃ k, (relabel scope X.env).names.lookup x = some k := by
    rcases e3 with h | h | h <;> exact ⟨_, h⟩
   obtain ⟨k, h⟩ := this
   rcases relabel_mem h with h' | ⟨h', e⟩
   ·have e5 := lookup_mem T.nd h'
    have e6 := lookup_mem T.nd hfree
    rw [e5] at e6
    cases e6
    exact .inr h
   ·subst e; exact .inl h
  ·rcases lk with ⟨k1, _⟩ | ⟨_, c, hc, z⟩
   ·rcases kX with h | h <;> rw [h] at k1 <;> cases k1
   ·refine ⟨c, ?_, z.keeps keep⟩
    show (cellsFrom (s.heap.objs.size + 1) scope.names cl).lookup x = some c
    rw [eo, lookup_append fun p hp e => ?_]
    ·obtain ⟨c', hc'⟩ := hfr x hfree
     obtain ⟨c2, hc2⟩ := lookup_ex hc'
     have := hcl _ (mem_of_lookup hc2)
     rw [hc] at this
     cases this
     exact hc2
    ·have e5 := lookup_mem T.nd (o1 p hp).2
     rw [e] at e5
     have e6 := lookup_mem T.nd hfree
     rw [e5] at e6
     cases e6
 ·have h : (own ++ cl).lookup x = some c := eo ▸ h
  rcases cases_ x c h with ⟨l1, m1⟩ | e1
  ·exact ⟨none, (okc.empty x c (eown ▸ m1)).1⟩
  ·obtain ⟨v, z⟩ := I.cell x c e1
   exact ⟨v, z.keeps keep⟩
 ·have h : (own ++ cl).lookup x = some c := eo ▸ h
  rcases cases_ x c h with ⟨l1, m1⟩ | e1
  ·exact I.hok.fresh (Nat.le_of_succ_le l1)
  ·exact I.freeC x c e1
 ·rw [List.append_nil] at hp
  obtain ⟨e, n, ne, nf, d⟩ := I.pin p hp
  refine ⟨keep _ _ e, n, Nat.ne_of_lt (Heap.lt_size e), fun z => ?_, d⟩
  rcases List.mem_cons.mp (I.stkSub p.1 z) with z | z
  ·exact ne z
  ·exact nf z
 ·show (σ ++ List.replicate (N'.length - X.N.length) none).length = N'.length
  rw [List.length_append, List.length_replicate, I.len]
  have := T.len
  omega
theorem cy_end {σ1 : St} {H1 : Hp} {s1 : Shared} {h' : Heap} {pins1 : List (Addr × Obj)} (I : Inv X pins σ H s) (hf : ∀ b ∈ fp, FpOk X pins H b) (I1 : Inv (cyOf X N' scope cl s H fp pins) pins1 σ1 H1 s1) (hs : Heap.SameBut s.heap.objs.size s1.heap h') :
  Inv X pins σ H1 { s1 with heap := h' } := by
 have hC : ∀ b o, s.heap.get? b = some o → b ≠ s.heap.objs.size := fun b o e => Nat.ne_of_lt (Heap.lt_size e)
 have u := I1.base
 have u2 : Un (frs X.stack) fp H H1 s.heap h' := by
  refine ⟨fun b o e n hb hx => ?_, fun b o e n hb hx => ?_, u.free, fun b o e hx => ?_, u.tups, u.frzs, u.tbls⟩
  ·rw [hs.2 b (hC b o e)]; exact u.keep b o e n hb hx
  ·obtain ⟨sl, q⟩ := u.slot b o e n hb hx
   exact ⟨sl, by rw [hs.2 b (hC b o e)]; exact q⟩
  ·obtain ⟨o', q⟩ := u.there b o e hx
   exact ⟨o', by rw [hs.2 b (hC b o e)]; exact q⟩
 have hCf : H1 s.heap.objs.size = none := I1.free
 refine I.call' (s' := { s1 with heap := h' }) I1.os u2 (fun b o e => ?_) I1.bare fun b hb => ⟨(hf b hb).2.2.2.1, (hf b hb).2.1, (hf b hb).2.2.2.2.1, (hf b hb).2.2.2.2.2⟩
 refine (I1.hok b o e).stay (fun c v hc q => (hs.2 c ?_).trans q) (fun _ q => q) fun _ _ q => q
 rintro rfl
 rcases hc with z | z
 ·rw [← z, hCf] at e; cases e
 ·rw [hCf] at z; cases z
noncomputable def PIf (X : Cx) (ifs : List Expr) (t : TT) : Prop :=
 ∀ (pins : List (Addr × Obj)) (s : Shared) (σ : St) (H : Hp) (Q : Bool → Hp → Prop), Inv X pins σ H s → t σ H Q →
  wpAny (model X.prog X.w) X.A (forIn ifs true fun c r => if r = true then do let ok ← isTrue c X.env (eval c X.env); pure (ForInStep.yield ok) else pure (ForInStep.yield r)) (TP X pins σ Q) X.xe s
theorem pif_nil : PIf X [] (fun _ H Q => Q true H) := fun pins s σ H Q I h => wpAny_tests_nil ⟨H, I, h⟩
theorem pif_one {c : Expr} {t : TT} (h : PT X c t) : PIf X [c] t := fun pins s σ H Q I h' => wpAny_tests_one (h pins s σ H Q I h')
noncomputable def tLc (k : Nat) (wi : TI) (g : TG) (tt : TT) (te : TE) : TE := fun σ H Q => wi σ H fun J H1 => ∀ p, H1 p = none →
 ∃ W : Nat → Nat → St → Hp → Prop, (∃ m, W 0 m (σ ++ List.replicate k none) (upd H1 p (.lst []))) ∧ ∀ i m σ' H', W i m σ' H' →
  (J.stop i H' ∧ Q (.ref p) H') ∨ (J.go i H' ∧ ∀ x H2, J.yld i H' x H2 → g x σ' H2 fun σ2 H3 => tt σ2 H3 fun ok H4 => if ok = true then
   te σ2 H4 fun y H5 => ∃ ys, H5 p = some (.lst ys) ∧ ys.length < sizeLine ∧ ∃ m', m' < m ∧ W (i + 1) m' σ2 (upd H5 p (.lst (ys ++ [y])))
   else ∃ m', m' < m ∧ W (i + 1) m' σ2 H4)
theorem compLoop_any {prog : Program} {w : World} {A : Around} {R : Result → Shared → Prop} {s : Shared} {elt target iter : Expr} {ifs : List Expr} {scope : Scope} {pos : Pos} {it acc : Value} {env : Env} (I : Nat → Shared → Prop)
  (turn : ∀ n s, I n s → wpAny (model prog w) A (pyNext it) (fun r s₁ => match r with
   | none => R (.ok .next) s₁
   | some v => wpAny (model prog w) A (letOwnedTupleGo target it v) (fun _ s₁' => wpAny (model prog w) A (assign target env v) (fun _ s₂ =>
     wpAny (model prog w) A (forIn ifs true fun c r => if r = true then do let ok ← isTrue c env (eval c env); pure (ForInStep.yield ok) else pure (ForInStep.yield r)) (fun ok s₃ =>
      if ok = true then wpAny (model prog w) A (eval elt env) (fun x s₄ =>
       wpAny (model prog w) A (call (.builtin "list.append") [acc, x]) (fun _ s₅ => ∃ m, m < n ∧ I m s₅) (fun _ _ => False) s₄) (fun _ _ => False) s₃
      else ∃ m, m < n ∧ I m s₃) (fun _ _ => False) s₂) (fun _ _ => False) s₁') (fun _ _ => False) s₁) (fun _ _ => False) s)
  (n : Nat) (h : I n s) : codeAny (model prog w) A (.compLoop (.ListComp elt [⟨target, iter, ifs, 0⟩] scope pos) 0 it acc env) R s := by
 refine codeAny_loop rfl I (fun n s hI => ?_) n h
 show wpAny _ A ((compTurn (.ListComp elt [⟨target, iter, ifs, 0⟩] scope pos) 0 it acc env).onRaise (fun x => do noteFrame x env; theTreesLotGoes x)) _ _ s
 refine wpAny_noted ?_
 rw [compTurn_list]
 refine wpAny_bind (wpAny_standAt (wpAny_bind (wpAny_mono (turn n s hI) (fun r s₁ h₁ => ?_) fun _ _ h' => h'.elim)))
 cases r with
 | none => exact wpAny_pure h₁
 | some v =>
  refine wpAny_bind (wpAny_mono h₁ (fun _ s₁' h₁' => ?_) fun _ _ h' => h'.elim)
  refine wpAny_bind (wpAny_mono h₁' (fun _ s₂ h₂ => wpAny_bind (wpAny_mono h₂ (fun ok s₃ h₃ => ?_) fun _ _ h' => h'.elim)) fun _ _ h' => h'.elim)
  cases ok with
  | false => exact wpAny_pure ⟨rfl, h₃⟩
  | true =>
   exact wpAny_bind (wpAny_bind (wpAny_mono h₃ (fun x s₄ h₄ => wpAny_bind (wpAny_mono h₄ (fun _ s₅ h₅ => wpAny_pure (wpAny_pure ⟨rfl, h₅⟩)) fun _ _ h' => h'.elim)) fun _ _ h' => h'.elim))
theorem lc_block {elt iter tg : Expr} {ifs : List Expr} {pos : Pos} {g : TG} {tt : TT} {te : TE} {J : It} {it : Addr} {tn : Nat → Heap → Prop} {Q : VK} {E : Value → Shared → Prop} {RR : Value → Addr → Result → Shared → Prop}
  (hc : X.calm = true) (T : CyOk X N' scope) (hcl : ∀ p ∈ cl, X.env.cells.lookup p.1 = some p.2) (hfr : ∀ x, (x, NameKind.free) ∈ scope.names → ∃ c, (x, c) ∈ cl)
  (hg : ∀ cl s H fp pins, PG (cyOf X N' scope cl s H fp pins) tg g) (ht : ∀ cl s H fp pins, PIf (cyOf X N' scope cl s H fp pins) ifs tt) (he : ∀ cl s H fp pins, PE (cyOf X N' scope cl s H fp pins) elt te)
  (I : Inv X pins σ H s) (Tn : Turn X.prog X.w X.K tg J fp it tn) (st0 : tn 0 s.heap) (hf : ∀ b ∈ fp, FpOk X pins H b)
  (h : ∀ p, H p = none → ∃ W : Nat → Nat → St → Hp → Prop, (∃ m, W 0 m (σ ++ List.replicate (N'.length - X.N.length) none) (upd H p (.lst []))) ∧ ∀ i m σ' H', W i m σ' H' →
   (J.stop i H' ∧ Q (.ref p) H') ∨ (J.go i H' ∧ ∀ x H2, J.yld i H' x H2 → g x σ' H2 fun σ2 H3 => tt σ2 H3 fun ok H4 => if ok = true then
    te σ2 H4 fun y H5 => ∃ ys, H5 p = some (.lst ys) ∧ ys.length < sizeLine ∧ ∃ m', m' < m ∧ W (i + 1) m' σ2 (upd H5 p (.lst (ys ++ [y])))
    else ∃ m', m' < m ∧ W (i + 1) m' σ2 H4))
  (hRR : ∀ p C s1 H1, Inv X pins σ H1 s1 → Q (.ref p) H1 → (∃ m, s1.heap.Ns C m) → H1 C = none → s.heap.objs.size ≤ C → RR (.ref p) C (.ok .next) s1) :
  wpAny (model X.prog X.w) X.A (newList []) (fun acc s₃ => wpAny (model X.prog X.w) X.A (newFunctionEnv scope X.env.globals cl [] X.env.qual none .none (some X.env)) (fun cenv s₄ =>
   codeAny (model X.prog X.w) X.A (.compStart (.ListComp elt [⟨tg, iter, ifs, 0⟩] scope pos) 0 (.ref it) acc { cenv with scope := relabel scope X.env }) (RR acc cenv.locals) s₄) E s₃) E s := by
 refine wpAny_newObj_type (nfe_comp ?_)
 have hp : H s.heap.objs.size = none := I.fresh
 obtain ⟨W, ⟨m0, w0⟩, turn⟩ := h _ hp
 have I2 : Inv X pins σ (upd H s.heap.objs.size (.lst [])) { s with heap := s.heap.push { cls := .type "list", data := .seq ([] : List Value).toArray } } := Inv.lnew (t' := s.toks) (its := []) (ys := []) I .nil (Nat.zero_le _)
 have hf2 : ∀ b ∈ fp, FpOk X pins (upd H s.heap.objs.size (.lst [])) b := fun b hb => by
  obtain ⟨o, e, _⟩ := Tn.obj _ _ st0 b hb
  exact ⟨by rw [upd_ne (Nat.ne_of_lt (Heap.lt_size e))]; exact (hf b hb).1, (hf b hb).2⟩
 have ho2 : ∀ b ∈ fp, ∃ o, (s.heap.push { cls := .type "list", data := .seq ([] : List Value).toArray } : Heap).get? b = some o := fun b hb => by
  obtain ⟨o, e, _⟩ := Tn.obj _ _ st0 b hb
  exact ⟨o, Heap.get?_push_of_some _ e⟩
 have I3 := cy_start T I2 hcl hfr hf2 ho2
 have st3 : tn 0 (pushCells ((s.heap.push { cls := .type "list", data := .seq ([] : List Value).toArray }).push { cls := .type "dict", data := .dict #[] }) scope.names) :=
  Tn.keep _ _ _ st0 fun b hb o e => pushCells_keeps _ _ b o (Heap.get?_push_of_some _ (Heap.get?_push_of_some _ e))
 generalize hs2 : ({ s with heap := s.heap.push { cls := .type "list", data := .seq ([] : List Value).toArray } } : Shared) = s2 at I2 I3
 have hC : s.heap.objs.size ≤ s2.heap.objs.size := by rw [← hs2]; exact Nat.le_of_lt (by show _ < (s.heap.push _).objs.size; rw [Heap.size_push]; exact Nat.lt_succ_self _)
 have stat : ∀ {H' : Hp}, (∀ b ∈ fp, H' b = none) → ∀ b ∈ fp, FpOk (cyOf X N' scope cl s2 (upd H s.heap.objs.size (.lst [])) fp pins) [] H' b := fun {H'} hn b hb => by
  refine ⟨hn b hb, (I3.ok.exf b hb).1, I3.ok.exfs b hb, .inl hb, (I3.ok.exf b hb).2, fun p hp => ?_⟩
  rw [List.append_nil] at hp
  exact (hf b hb).2.2.2.2.2 p hp
 have loop : ∀ s4, s4 = ({ s2 with heap := pushCells (s2.heap.push { cls := .type "dict", data := .dict #[] }) scope.names } : Shared) →
   codeAny (model X.prog X.w) X.A (.compLoop (.ListComp elt [⟨tg, iter, ifs, 0⟩] scope pos) 0 (.ref it) (.ref s.heap.objs.size) (cyOf X N' scope cl s2 (upd H s.heap.objs.size (.lst [])) fp pins).env) (RR (.ref s.heap.objs.size) s2.heap.objs.size) s4 := by
  rintro s4 rfl
  refine compLoop_any (fun n s' => ∃ i σ' H', Inv (cyOf X N' scope cl s2 (upd H s.heap.objs.size (.lst [])) fp pins) [] σ' H' s' ∧ tn i s'.heap ∧ (∀ b ∈ fp, H' b = none) ∧ W i n σ' H') ?_ m0
   ⟨0, _, _, I3, by subst hs2; exact st3, fun b hb => (hf2 b hb).1, w0⟩
  rintro n s3 ⟨i, σ3, H3, I4, st4, fr4, w4⟩
  rcases turn i n σ3 H3 w4 with ⟨stop, qn⟩ | ⟨go, step⟩
  ·refine thn (Tn.done (cyOf X N' scope cl s2 (upd H s.heap.objs.size (.lst [])) fp pins) rfl rfl rfl hc i [] s3 σ3 H3 (fun _ _ => False) I4 (stat fr4) st4 stop) fun r s5 ⟨hr, I5⟩ => ?_
   subst hr
   obtain ⟨m, hn, _⟩ := I5.loc
   exact hRR _ _ s5 H3 (cy_end I2 hf2 I5 (Heap.SameBut.refl _ _)) qn ⟨m, hn⟩ I5.free hC
  ·refine thn (Tn.item (cyOf X N' scope cl s2 (upd H s.heap.objs.size (.lst [])) fp pins) rfl rfl rfl hc i [] s3 σ3 H3 (fun _ _ => False) I4 (stat fr4) st4 go) fun r s5 ⟨u, hr, h5⟩ => ?_
   subst hr
   refine thn h5 fun _ s6 ⟨x, H6, I6, r6, y6, st6, fr6⟩ => ?_
   have I6' := I6.pinned (stat fr6) (Tn.obj _ _ st6)
   have again : ∀ {σ7 : St} {H7 : Hp} {s7 : Shared} {m' : Nat}, Inv (cyOf X N' scope cl s2 (upd H s.heap.objs.size (.lst [])) fp pins) ([] ++ pinsAt fp s6.heap) σ7 H7 s7 → m' < n → W (i + 1) m' σ7 H7 →
     ∃ m, m < n ∧ ∃ i σ' H', Inv (cyOf X N' scope cl s2 (upd H s.heap.objs.size (.lst [])) fp pins) [] σ' H' s7 ∧ tn i s7.heap ∧ (∀ b ∈ fp, H' b = none) ∧ W i m σ' H' := fun {σ7 H7 s7 m'} I7 hm w7 => by
    refine ⟨m', hm, i + 1, σ7, H7, I7.unpinned, Tn.keep _ _ _ st6 fun b hb o e => (I7.pin (b, o) (List.mem_append_right _ (List.mem_append_right _ (mem_pinsAt hb e)))).1, fun b hb => ?_, w7⟩
    obtain ⟨o, e, d⟩ := Tn.obj _ _ st6 b hb
    exact (I7.pin (b, o) (List.mem_append_right _ (List.mem_append_right _ (mem_pinsAt hb e)))).2.1
   refine thn (hg _ _ _ _ _ _ s6 σ3 H6 x u _ I6' r6 (step x H6 y6)) fun _ s7 ⟨σ7, H7, I7, q7⟩ => ?_
   refine thn (ht _ _ _ _ _ _ s7 σ7 H7 _ I7 q7) fun ok s8 ⟨H8, I8, q8⟩ => ?_
   cases ok with
   | false =>
    simp only [Bool.false_eq_true, if_false] at q8 ⊢
    obtain ⟨m', hm, w8⟩ := q8
    exact again I8 hm w8
   | true =>
    simp only [if_true] at q8 ⊢
    refine thn (he _ _ _ _ _ _ s8 σ7 H8 _ I8 q8) fun y s9 ⟨yv, H9, I9, r9, ys, e9, l9, m', hm, w9⟩ => ?_
    refine thn (mt_append _ s9 σ7 H9 (.ref s.heap.objs.size) [yv] (.ref s.heap.objs.size) [y] (fun _ H' => H' = upd H9 s.heap.objs.size (.lst (ys ++ [yv]))) I9 rfl (.cons r9 .nil) ⟨_, ys, yv, rfl, rfl, e9, l9, rfl⟩) fun _ s10 ⟨_, H10, I10, _, e10⟩ => ?_
    subst e10
    exact again I10 hm w9
 have st5 : tn 0 (pushCells (s2.heap.push { cls := .type "dict", data := .dict #[] }) scope.names) := by subst hs2; exact st3
 have fin := codeAny_compStart_list (loop _ rfl) (Tn.self X.A 0 _ _ (notedBy (model X.prog X.w) X.A (cyOf X N' scope cl s2 (upd H s.heap.objs.size (.lst [])) fp pins).env fun x s' => RR (.ref s.heap.objs.size) s2.heap.objs.size (.error x) s') st5 (loop _ rfl))
 subst hs2
 exact fin
end
end L2
namespace L2
open PySem PySem.Spec PyProof.Rows
section
variable {X : Cx} {N' : List Str} {scope : Scope} {pins : List (Addr × Obj)} {σ : St} {elt iter tg : Expr} {ifs : List Expr} {pos : Pos} {wi : TI} {g : TG} {tt : TT} {te : TE}
theorem lc_names (T : CyOk X N' scope) : ∀ x ∈ scope.names, x.2 = .local → scope.names.lookup x.1 = some .local := fun x hx e => by
 obtain ⟨n, k⟩ := x
 cases e
 exact lookup_mem T.nd hx
theorem pe_lc (hc : X.calm = true) (T : CyOk X N' scope) (hi : PI X tg iter wi) (hg : ∀ cl s H fp pins, PG (cyOf X N' scope cl s H fp pins) tg g) (ht : ∀ cl s H fp pins, PIf (cyOf X N' scope cl s H fp pins) ifs tt)
  (he : ∀ cl s H fp pins, PE (cyOf X N' scope cl s H fp pins) elt te) (hs : autoParam (∀ x, foldedSetIterable iter X.env x = pure x) Ax3._auto_1) :
  PE X (.ListComp elt [⟨tg, iter, ifs, 0⟩] scope pos) (tLc (N'.length - X.N.length) wi g tt te) := by
 intro pins s σ H Q I h
 obtain ⟨cl, hclos, hcl, hfr⟩ := closure_ok (scope := scope) (env := X.env) fun x hx => I.ok.has x (T.free x hx)
 rw [eval_ListComp]
 refine wpAny_comprehension_free (use := none) rfl hs hclos T.kind (lc_names T) (wpAny_mono (hi pins s σ H _ I h) (fun xv s1 h1 => wpAny_mono h1 (fun itv s2 h2 => ?_) fun _ _ e => e) fun _ _ e => e)
 obtain ⟨it, fp, tn, J, H2, rfl, I2, Tn, st2, f2, R⟩ := h2
 refine lc_block (Q := Q) (RR := fun acc C => compPost (model X.prog X.w) X.A X.xe none (EP X pins σ Q) acc C) hc T hcl hfr hg ht he I2 Tn st2 f2 R ?_
 rintro p C s3 H3 I3 q ⟨m, hn⟩ hC hle
 refine ⟨m, hn, fun h' hs' => ⟨.ref p, H3, ?_, rfl, q⟩⟩
 refine I3.turned (t' := s3.toks) (it := C) (fun b o hb e => (hs'.2 b hb).trans e) hC ?_ (.inr (Nat.le_trans I2.sz hle)) (fun x c e => ?_) fun p hp => ?_
 ·exact Ne.symm (Nat.ne_of_lt (Nat.lt_of_lt_of_le I2.lt hle))
 ·obtain ⟨v, z⟩ := I2.cell x c e
  exact Nat.ne_of_lt (Nat.lt_of_lt_of_le z.lt hle)
 ·exact Nat.ne_of_lt (Nat.lt_of_lt_of_le (Heap.lt_size (I2.pin p hp).1) hle)
theorem ps_set_lc {i : Nat} {y : Str} {py spos : Pos} (hN : X.N.Nodup) (hiN : X.N[i]? = some y) (hx : Loc X.env.scope y) (hsw : swapsWith (.ListComp elt [⟨tg, iter, ifs, 0⟩] scope pos) (some (.Name y py)) spos.line X.env = pure true)
  (hc : X.calm = true) (T : CyOk X N' scope) (hi : PI X tg iter wi) (hg : ∀ cl s H fp pins, PG (cyOf X N' scope cl s H fp pins) tg g) (ht : ∀ cl s H fp pins, PIf (cyOf X N' scope cl s H fp pins) ifs tt)
  (he : ∀ cl s H fp pins, PE (cyOf X N' scope cl s H fp pins) elt te) (hs : autoParam (∀ x, foldedSetIterable iter X.env x = pure x) Ax3._auto_1) (hf : autoParam (X.fn y = true ∨ X.env.scope.names.lookup y = some .local) Ax0._auto_1) :
  PS X (.Assign [.Name y py] (.ListComp elt [⟨tg, iter, ifs, 0⟩] scope pos) spos) (tAsg (tLc (N'.length - X.N.length) wi g tt te) (gName i)) := by
 intro pins s σ H D I h
 obtain ⟨cl, hclos, hcl, hfr⟩ := closure_ok (scope := scope) (env := X.env) fun x hx => I.ok.has x (T.free x hx)
 rw [exec_Assign_Name_used _ _ _ _ hsw]
 refine wpAny_bind (wpAny_standAt (wpAny_bind ?_))
 show wpAny _ X.A (do let _ ← comprehension (.ListComp elt [⟨tg, iter, ifs, 0⟩] scope pos) scope X.env _ (newList []) false (eval iter X.env) (some (assign (.Name y py) X.env))) _ _ s
 refine wpAny_bind (wpAny_mono (wpAny_comprehension_free (use := some (assign (.Name y py) X.env)) (Q := fun _ s' => SP X pins D .next s') rfl hs hclos T.kind (lc_names T)
  (wpAny_mono (hi pins s σ H _ I h) (fun xv s1 h1 => wpAny_mono h1 (fun itv s2 h2 => ?_) fun _ _ e => e) fun _ _ e => e)) (fun _ s' hq => wpAny_pure (wpAny_pure hq)) fun _ _ e => e)
 obtain ⟨it, fp, tn, J, H2, rfl, I2, Tn, st2, f2, R⟩ := h2
 refine lc_block (Q := fun x H1 => gName i x σ H1 D.nx) (RR := fun acc C => compPost (model X.prog X.w) X.A X.xe (some (assign (.Name y py) X.env)) (fun _ s' => SP X pins D .next s') acc C) hc T hcl hfr hg ht he I2 Tn st2 f2 R ?_
 rintro p C s3 H3 I3 q ⟨m, hn⟩ hC hle
 have hCL : C ≠ X.env.locals := Ne.symm (Nat.ne_of_lt (Nat.lt_of_lt_of_le I2.lt hle))
 have hCc : ∀ x c, X.env.cells.lookup x = some c → c ≠ C := fun x c e => by
  obtain ⟨v, z⟩ := I2.cell x c e
  exact Nat.ne_of_lt (Nat.lt_of_lt_of_le z.lt hle)
 show wpAny _ X.A (assign (.Name y py) X.env (.ref p)) _ _ _
 refine wpAny_assign_Name (store_ok2 (v := .ref p) I3 hN hiN hx rfl (fun s4 I4 ⟨a, sb, ha⟩ => ?_) hf)
 have hne : C ≠ a := by
  rcases ha with e | e
  ·rw [e]; exact hCL
  ·exact (hCc _ _ e).symm
 refine ⟨m, hn.sameBut sb hne, fun h' hs' => ⟨_, H3, ?_, q⟩⟩
 refine I4.turned (t' := s4.toks) (it := C) (fun b o hb e => (hs'.2 b hb).trans e) hC hCL (.inr (Nat.le_trans I2.sz hle)) hCc fun p hp => ?_
 exact Nat.ne_of_lt (Nat.lt_of_lt_of_le (Heap.lt_size (I2.pin p hp).1) hle)
theorem PI_imp {t t' : TI} (h : PI X tg iter t) (i : ∀ σ H R, t' σ H R → t σ H R) : PI X tg iter t' := fun pins s σ H R I h' => h pins s σ H R I (i σ H R h')
end
end L2
namespace DD
open PySem PySem.Spec PyProof.Rows L2
structure ItD (K : PySem.W.Frag) (J : It) (xs : List D) (F : Addr → Prop) (H : Hp) : Prop where
 item : ∀ i d F1 H1, Ext F H F1 H1 → (∀ a, F1 a → ∃ o, H1 a = some o) → xs[i]? = some d → J.go i H1 ∧ ∀ x H2, J.yld i H1 x H2 → ∃ F2, Grow F1 H1 F2 H2 ∧ Ow K F2 H2 d x []
 done : ∀ F1 H1, Ext F H F1 H1 → J.stop xs.length H1
noncomputable abbrev DI := DSt → Option (List D × DSt)
noncomputable def rIt (K : PySem.W.Frag) (c : DI) : TI := fun σ H R => ∃ F Ro σD xs σD', Rel K F H σD σ Ro ∧ c σD = some (xs, σD') ∧ ∀ F' H' J, Ext F H F' H' → Rel K F' H' σD' σ Ro → ItD K J xs F' H' → R J H'
noncomputable def QI (X : Cx) (tg iter : Expr) (c : DI) : Prop := PI X tg iter (rIt X.K c)
noncomputable def iLst (c : DE) : DI := fun σ => (c σ).bind fun p => match p.1 with | .lst _ xs => some (D.fzL xs, p.2) | _ => none
noncomputable def iR1 (c : DA) : DI := fun σ => (c σ).bind fun p => match p.1 with | [.int j] => if rOk j = true then some (rngD 0 j, p.2) else none | _ => none
noncomputable def iR2 (c : DA) : DI := fun σ => (c σ).bind fun p => match p.1 with | [.int i, .int j] => if (rOk i && rOk j) = true then some (rngD i j, p.2) else none | _ => none
section
variable {X : Cx} {tg e a b : Expr} {c : DE} {ca : DA} {p1 pos1 : Pos}
theorem itd_range {K : PySem.W.Frag} {F : Addr → Prop} {H : Hp} {lo hi : Int} : ItD K (Itr lo (hi - lo).toNat) (rngD lo hi) F H where
 item := fun i d F1 H1 _ _ e => by
  have hl : (rngD lo hi).length = (hi - lo).toNat := by simp [rngD]
  have hi' : i < (hi - lo).toNat := by rw [← hl]; exact (List.getElem?_eq_some_iff.mp e).1
  have ed : d = .int (lo + i) := by
   unfold rngD at e
   rw [List.getElem?_map, List.getElem?_range hi'] at e
   exact (Option.some.inj e).symm
  subst ed
  exact ⟨hi', fun x H2 hq0 => by obtain ⟨e1, e2⟩ := hq0; subst e1; subst e2; exact ⟨F1, Grow.refl, Ow.of_sc rfl⟩⟩
 done := fun F1 H1 _ => by show (hi - lo).toNat ≤ (rngD lo hi).length; simp [rngD]
theorem ln1 {α β : Type} {a : α} {vs : List β} (h : [a].length = vs.length) : ∃ v, vs = [v] := by
 cases vs with
 | nil => cases h
 | cons v vs => cases vs with
  | nil => exact ⟨v, rfl⟩
  | cons _ _ => simp at h
theorem ln2 {α β : Type} {a b : α} {vs : List β} (h : [a, b].length = vs.length) : ∃ v u, vs = [v, u] := by
 cases vs with
 | nil => cases h
 | cons v vs =>
  obtain ⟨u, rfl⟩ := ln1 (a := a) (vs := vs) (Nat.succ.inj h)
  exact ⟨v, u, rfl⟩
theorem qi_r1 (hgl : Gl X "range") (hm : X.mg "range" = none) (ha : QA X [a] ca) (hs : autoParam (starEach [a] X.env = [(false, eval a X.env)]) Ax4._auto_1) : QI X tg (.Call (.Name "range" p1) [a] [] pos1) (iR1 ca) :=
 PI_imp (pi_range1 hgl hm ha hs) fun σ H R hq0 => by
  obtain ⟨F, Ro, σD, xs, σD', r, ec, k⟩ := hq0
  unfold iR1 at ec
  rcases h : ca σD with _ | ⟨ys, σ1⟩
  ·rw [h] at ec; cases ec
  ·rw [h] at ec; simp only [bind_some] at ec
   refine ⟨F, Ro, σD, ys, σ1, r, h, fun F1 H1 vs x1 hl r1 => ?_⟩
   split at ec
   ·rename_i j
    split at ec
    ·rename_i hj
     cases ec
     obtain ⟨v, rfl⟩ := ln1 hl
     have hv : v = .int j := (r1.bor (d := .int j) (v := v) (by simp)).int
     subst hv
     unfold rOk at hj
     simp only [decide_eq_true_eq] at hj
     have q : ItD X.K (Itr 0 (j - 0).toNat) (rngD 0 j) F1 H1 := itd_range
     rw [Int.sub_zero] at q
     exact ⟨j, rfl, hj.1, hj.2, k F1 H1 _ x1 (r1.popN (S := [(D.int j, V.int j)])) q⟩
    ·cases ec
   ·cases ec
theorem qi_r2 (hgl : Gl X "range") (hm : X.mg "range" = none) (ha : QA X [a, b] ca) (hs : autoParam (starEach [a, b] X.env = [(false, eval a X.env), (false, eval b X.env)]) Ax4._auto_1) (hs2 : autoParam (starEach [b] X.env = [(false, eval b X.env)]) Ax4._auto_1) : QI X tg (.Call (.Name "range" p1) [a, b] [] pos1) (iR2 ca) :=
 PI_imp (pi_range2 hgl hm ha hs hs2) fun σ H R hq0 => by
  obtain ⟨F, Ro, σD, xs, σD', r, ec, k⟩ := hq0
  unfold iR2 at ec
  rcases h : ca σD with _ | ⟨ys, σ1⟩
  ·rw [h] at ec; cases ec
  ·rw [h] at ec; simp only [bind_some] at ec
   refine ⟨F, Ro, σD, ys, σ1, r, h, fun F1 H1 vs x1 hl r1 => ?_⟩
   split at ec
   ·rename_i i j
    split at ec
    ·rename_i hj
     cases ec
     obtain ⟨v, u, rfl⟩ := ln2 hl
     have hv : v = .int i := (r1.bor (d := .int i) (v := v) (by simp)).int
     have hu : u = .int j := (r1.bor (d := .int j) (v := u) (by simp)).int
     subst hv; subst hu
     unfold rOk at hj
     simp only [Bool.and_eq_true, decide_eq_true_eq] at hj
     exact ⟨i, j, rfl, ⟨hj.1.1, hj.1.2, hj.2.1, hj.2.2⟩, k F1 H1 _ x1 (r1.popN (S := [(D.int i, V.int i), (D.int j, V.int j)])) itd_range⟩
    ·cases ec
   ·cases ec
theorem itd_list {K : PySem.W.Frag} {F : Addr → Prop} {H : Hp} {xs : List D} {a : Addr} {vs : List V} (fl : FL K F H a vs) (ol : OwL K F H xs vs []) : ItD K (Itl K a) xs F H where
 item := fun i d F1 H1 x1 _ e => by
  obtain ⟨w, La, Lx, Lb, e1, eL, o, _⟩ := ol.kid e
  have eLx : Lx = [] := (List.append_eq_nil_iff.mp (List.append_eq_nil_iff.mp eL.symm).1).2
  subst eLx
  refine ⟨⟨vs, w, (fl.ext x1).sq, e1⟩, fun x H2 ⟨e2, hx⟩ => ?_⟩
  subst e2
  have := hx vs (fl.ext x1).sq
  rw [e1] at this
  cases this
  exact ⟨F1, Grow.refl, o.mono x1 (fun a ha => by cases ha)⟩
 done := fun F1 H1 x1 => ⟨vs, (fl.ext x1).sq, by rw [ol.length]; exact Nat.le_refl _⟩
theorem qi_lst (he : QE X e c) : QI X tg e (iLst c) := PI_imp (pi_list he) fun σ H R hq0 => by
 obtain ⟨F, Ro, σD, xs, σD', r, ec, k⟩ := hq0
 unfold iLst at ec
 rcases h : c σD with _ | ⟨d, σ1⟩
 ·rw [h] at ec; cases ec
 ·rw [h] at ec; simp only [bind_some] at ec
  refine ⟨F, Ro, σD, d, σ1, r, h, fun F1 H1 v x1 r1 => ?_⟩
  split at ec
  ·cases ec
   obtain ⟨F2, x2, r2, o2⟩ := r1.freeze
   simp only [D.fz, Ow] at o2
   obtain ⟨a, vs, rfl, fl, ol, _⟩ := o2
   exact ⟨a, rfl, ⟨vs, fl.sq⟩, k F2 H1 _ (x1.trans x2) r2.pop (itd_list fl ol)⟩
  ·cases ec
end
noncomputable def sForI (c : DI) (g : DG) (b : DS) : DS := fun σ => (c σ).bind fun p => dLoop g b p.1 p.2
section
variable {X : Cx} {e tg : Expr} {g : DG} {s : DS} {pos : Pos} {W W' : List Nat} {body : List Stmt}
theorem it_loop {F : Addr → Prop} {H : Hp} {R : Ro} {σD : DSt} {σ : St} {xs : List D} {J : It} {En : Ends} {o : Out} (r : Rel X.K F H σD σ R) (j : ItD X.K J xs F H) (h : dLoop g s xs σD = some o)
  (k : ∀ F' H' σ', Ext F H F' H' → Kp (W ++ W') σ σ' → Th X.K En R F' H' σ' o) :
  ∃ W1 : Nat → Nat → St → Hp → Prop, (∃ m, W1 0 m σ H) ∧ ∀ i m σ H, W1 i m σ H →
   (J.stop i H ∧ En.nx σ H) ∨ (J.go i H ∧ ∃ N : St → Hp → Prop, (∀ σ' H', N σ' H' → ∃ m', m' < m ∧ W1 (i + 1) m' σ' H') ∧ ∀ x H', J.yld i H x H' → rG X.K g W x σ H' fun σ2 H2 => rS X.K s W' { En with nx := N, ct := N, bk := En.nx } σ2 H2) := by
 refine ⟨fun i m σ1 H1 => m = xs.length - i ∧ i ≤ xs.length ∧ ∃ F1 σD1, Ext F H F1 H1 ∧ Kp (W ++ W') σ σ1 ∧ Rel X.K F1 H1 σD1 σ1 R ∧ dLoop g s (xs.drop i) σD1 = some o, ⟨_, rfl, Nat.zero_le _, F, σD, Ext.refl, Kp.refl, r, by simpa using h⟩, ?_⟩
 rintro i m σ1 H1 ⟨rfl, hle, F1, σD1, x1, kp1, r1, h1⟩
 rcases Nat.lt_or_ge i xs.length with hi | hi
 ·right
  obtain ⟨go, yl⟩ := j.item i _ F1 H1 x1 r1.g.dom (List.getElem?_eq_getElem hi)
  refine ⟨go, fun σ' H' => ∃ F1 σD1, Ext F H F1 H' ∧ Kp (W ++ W') σ σ' ∧ Rel X.K F1 H' σD1 σ' R ∧ dLoop g s (xs.drop (i + 1)) σD1 = some o, fun σ' H' q => ⟨xs.length - (i + 1), by omega, rfl, hi, q⟩, fun x H2 hy => ?_⟩
  obtain ⟨F2, gr, ox⟩ := yl x H2 hy
  rw [List.drop_eq_getElem_cons hi] at h1
  exact turn_of (R := R) (R0 := R) (W := W) (W' := W') (fun _ _ _ _ _ _ h => h) ((r1.grow gr).push ox) (x1.trans gr.x) kp1 h1 k fun F3 H3 σD3 σ3 x3 kp3 r3 h3 => ⟨F3, σD3, (x1.trans gr.x).trans x3, kp3, r3, h3⟩
 ·left
  have ei : i = xs.length := Nat.le_antisymm hle hi
  subst ei
  rw [List.drop_length] at h1
  simp only [dLoop] at h1
  cases h1
  exact ⟨j.done F1 H1 x1, k F1 H1 σ1 x1 kp1 r1⟩
theorem qs_forI {c : DI} (hc : X.calm = true) (hi : QI X tg e c) (hg : QG X tg g W) (hb : QSs X body s W') (hp : PassesOwn (model X.prog X.w) X.A X.env X.xe) (hf : autoParam (∀ x, foldedSetIterable e X.env x = pure x) Ax3._auto_1) : QS X (.For tg e body [] pos) (sForI c g s) (W ++ W') :=
 PS_imp (ps_for hp hc hi hg hb hf) fun En σ H hq0 => by
  obtain ⟨F, R, σD, o, r, ec, k⟩ := hq0
  unfold sForI at ec
  rcases h : c σD with _ | ⟨xs, σ1⟩
  ·rw [h] at ec; cases ec
  ·rw [h] at ec; simp only [bind_some] at ec
   refine ⟨F, R, σD, xs, σ1, r, h, fun F1 H1 J x1 r1 j => ?_⟩
   exact it_loop (X := X) (W := W) (W' := W') (g := g) (s := s) (En := En) r1 j ec fun F2 H2 σ2 x2 kp => k F2 H2 σ2 (x1.trans x2) kp
end
noncomputable def lcGo (g : DG) (t : DT) (c : DE) : List D → DSt → Option (List D × DSt)
 | [], σ => some ([], σ)
 | x :: xs, σ => (g x σ).bind fun σ1 => (t σ1).bind fun p => if p.1 = true then (c p.2).bind fun q => (lcGo g t c xs q.2).map fun r => (q.1 :: r.1, r.2) else lcGo g t c xs p.2
noncomputable def dLc (k : Nat) (i : DI) (g : DG) (t : DT) (c : DE) : DE := fun σ => (i σ).bind fun p => if p.1.length ≤ sizeLine then (lcGo g t c p.1 (p.2 ++ List.replicate k none)).map fun r => (.lst true r.1, r.2.take p.2.length) else none
noncomputable def tTrue : DT := fun σ => some (true, σ)
noncomputable def QIf (X : Cx) (ifs : List Expr) (t : DT) : Prop := PIf X ifs (rT X.K t)
section
variable {X : Cx} {e tg elt iter : Expr} {ifs : List Expr} {g : DG} {t : DT} {c : DE} {i : DI} {pos : Pos} {W : List Nat} {N' : List Str} {scope : Scope}
theorem qif_nil : QIf X [] tTrue := by
 intro pins s σ H Q I hh
 obtain ⟨F, R, σD, b, σD', r, ec, k⟩ := hh
 exact pif_nil pins s σ H Q I (by cases ec; exact k F H Ext.refl r)
theorem qif_one (h : QT X e t) : QIf X [e] t := pif_one h
theorem Rel.ext0 {K : PySem.W.Frag} {F : Addr → Prop} {H : Hp} {σD : DSt} {σ : St} {R : Ro} {k : Nat} (r : Rel K F H σD σ R) : Rel K F H (σD ++ List.replicate k none) (σ ++ List.replicate k none) R := by
 have hm : ∀ {σD : DSt} {σ : St}, Mt σD σ → Mt (σD ++ List.replicate k none) (σ ++ List.replicate k none) ∧ sl (σD ++ List.replicate k none) (σ ++ List.replicate k none) = sl σD σ := by
  intro σD
  induction σD with
  | nil => intro σ h; cases σ with | nil => exact ⟨mt_none, sl_none'⟩ | cons _ _ => cases h
  | cons o σD ih =>
   intro σ h
   cases σ with
   | nil => cases o <;> cases h
   | cons v σ =>
    cases o with
    | none => exact ih (σ := σ) h
    | some d =>
     cases v with
     | none => cases h
     | some v =>
      have q := ih (σ := σ) h
      exact ⟨q.1, congrArg ((d, v) :: ·) q.2⟩
 obtain ⟨h1, h2⟩ := hm r.mt
 exact ⟨h1, by rw [h2]; exact r.g⟩
theorem Rel.cut {K : PySem.W.Frag} {F : Addr → Prop} {H : Hp} {R : Ro} : ∀ {σD : DSt} {σ σ0 : St} {n : Nat}, σ0.length = n → σ.take n = σ0 → Rel K F H σD σ R → Rel K F H (σD.take n) σ0 R := by
 intro σD σ σ0 n hn he r
 subst he
 have hm : ∀ {σD : DSt} {σ : St} (n : Nat), Mt σD σ → Mt (σD.take n) (σ.take n) ∧ ∃ S, (sl σD σ) = sl (σD.take n) (σ.take n) ++ S := by
  intro σD
  induction σD with
  | nil => intro σ n h; cases σ with | nil => simp [Mt, sl] | cons _ _ => cases h
  | cons o σD ih =>
   intro σ n h
   cases σ with
   | nil => cases o <;> cases h
   | cons v σ =>
    cases n with
    | zero => exact ⟨trivial, _, rfl⟩
    | succ n =>
     cases o with
     | none => exact ih (σ := σ) n h
     | some d =>
      cases v with
      | none => cases h
      | some v =>
       obtain ⟨h1, S, h2⟩ := ih (σ := σ) n h
       refine ⟨h1, S, ?_⟩
       show (d, v) :: sl σD σ = (d, v) :: sl (σD.take n) (σ.take n) ++ S
       rw [h2]; rfl
 obtain ⟨h1, S, h2⟩ := hm n r.mt
 refine ⟨h1, ?_⟩
 have g := r.g
 rw [h2] at g
 have g2 : G K F H (S ++ (sl (σD.take n) (σ.take n) ++ R)) := g.perm (by rw [List.append_assoc]; exact List.perm_append_comm_assoc _ _ _)
 exact g2.popN
theorem lc_go {F : Addr → Prop} {H : Hp} {R : Ro} {σD σD' : DSt} {σ : St} {xs ys : List D} {J : It} {k : Nat} {Q : VK} (r : Rel X.K F H σD σ R) (j : ItD X.K J xs F H) (hz : xs.length ≤ sizeLine) (hw : ∀ i ∈ W, σ.length ≤ i)
  (h : lcGo g t c xs (σD ++ List.replicate k none) = some (ys, σD')) (kk : ∀ F' H' v, Ext F H F' H' → Rel X.K F' H' (σD'.take σD.length) σ ((.lst true ys, v) :: R) → Q v H') (p : Addr) (hp : H p = none) :
  ∃ W1 : Nat → Nat → St → Hp → Prop, (∃ m, W1 0 m (σ ++ List.replicate k none) (upd H p (.lst []))) ∧ ∀ i m σ' H', W1 i m σ' H' →
   (J.stop i H' ∧ Q (.ref p) H') ∨ (J.go i H' ∧ ∀ x H2, J.yld i H' x H2 → rG X.K g W x σ' H2 fun σ2 H3 => rT X.K t σ2 H3 fun ok H4 => if ok = true then
    rE X.K c σ2 H4 fun y H5 => ∃ ys, H5 p = some (.lst ys) ∧ ys.length < sizeLine ∧ ∃ m', m' < m ∧ W1 (i + 1) m' σ2 (upd H5 p (.lst (ys ++ [y])))
    else ∃ m', m' < m ∧ W1 (i + 1) m' σ2 H4) := by
 have hlen := r.mt.length
 obtain ⟨r0, x0⟩ := (r.ext0 (k := k)).alloc (o := .lst []) hp
 have r1 : Rel X.K F (upd H p (.lst [])) (σD ++ List.replicate k none) (σ ++ List.replicate k none) ((.lst true [], .ref p) :: R) := r0.formL (xs := []) (vs := []) rfl upd_same
 refine ⟨fun i m σ1 H1 => m = xs.length - i ∧ i ≤ xs.length ∧ ∃ F1 σD1 ds zs, Ext F H F1 H1 ∧ Kp W (σ ++ List.replicate k none) σ1 ∧ Rel X.K F1 H1 σD1 σ1 ((.lst true ds, .ref p) :: R) ∧ ds.length ≤ i ∧ lcGo g t c (xs.drop i) σD1 = some (zs, σD') ∧ ds ++ zs = ys,
  ⟨_, rfl, Nat.zero_le _, F, _, [], ys, x0, Kp.refl, r1, Nat.zero_le _, by simpa using h, rfl⟩, ?_⟩
 rintro i m σ1 H1 ⟨rfl, hle, F1, σD1, ds, zs, x1, kp1, r2, hds, h1, hys⟩
 rcases Nat.lt_or_ge i xs.length with hi | hi
 ·right
  obtain ⟨go, yl⟩ := j.item i _ F1 H1 x1 r2.g.dom (List.getElem?_eq_getElem hi)
  refine ⟨go, fun x H2 hy => ?_⟩
  obtain ⟨F2, gr, ox⟩ := yl x H2 hy
  rw [List.drop_eq_getElem_cons hi] at h1
  simp only [lcGo] at h1
  rcases e1 : g xs[i] σD1 with _ | σ3
  ·rw [e1] at h1; cases h1
  ·rw [e1] at h1; simp only [bind_some] at h1
   refine ⟨F2, _, σD1, xs[i], σ3, (r2.grow gr).push ox, e1, fun F3 H3 σ4 x3 kp3 r3 => ?_⟩
   rcases e2 : t σ3 with _ | ⟨ok, σ5⟩
   ·rw [e2] at h1; cases h1
   ·rw [e2] at h1; simp only [bind_some] at h1
    refine ⟨F3, _, σ3, ok, σ5, r3, e2, fun F4 H4 x4 r4 => ?_⟩
    have xx := ((x1.trans gr.x).trans x3).trans x4
    have kp5 := kp1.trans kp3
    cases ok with
    | false =>
     simp only [Bool.false_eq_true, if_false] at h1 ⊢
     exact ⟨xs.length - (i + 1), by omega, rfl, hi, F4, σ5, ds, zs, xx, kp5, r4, by omega, h1, hys⟩
    | true =>
     simp only [if_true] at h1 ⊢
     rcases e3 : c σ5 with _ | ⟨d, σ6⟩
     ·rw [e3] at h1; cases h1
     ·rw [e3] at h1; simp only [bind_some] at h1
      obtain ⟨⟨ws, σ7⟩, e4, e5⟩ := map_pair h1
      cases e5
      refine ⟨F4, _, σ5, d, σ6, r4, e3, fun F5 H5 v x5 r5 => ?_⟩
      obtain ⟨a, vs, ea, he, hl, r6⟩ := (r5.perm (.swap _ _ _)).openL
      cases ea
      refine ⟨vs, he, by omega, xs.length - (i + 1), by omega, rfl, hi, ?_⟩
      have r7 : Rel X.K F5 H5 σ6 σ4 ((.cell, .ref p) :: ((ds ++ [d]).zip (vs ++ [v]) ++ R)) := by
       refine r6.perm (.cons _ ?_)
       rw [List.zip_append hl]
       simp
      obtain ⟨r8, x8⟩ := r7.write (o := .lst (vs ++ [v]))
      exact ⟨F5, σ6, ds ++ [d], ws, (xx.trans x5).trans x8, kp5, r8.formL (by simp [hl]) upd_same, by simp; omega, e4, by rw [← hys]; simp⟩
 ·left
  have ei : i = xs.length := Nat.le_antisymm hle hi
  subst ei
  rw [List.drop_length] at h1
  simp only [lcGo] at h1
  cases h1
  rw [List.append_nil] at hys
  subst hys
  refine ⟨j.done F1 H1 x1, kk F1 H1 _ x1 ?_⟩
  rw [hlen]
  refine r2.cut rfl ?_
  apply List.ext_getElem?
  intro n
  rcases Nat.lt_or_ge n σ.length with hn | hn
  ·rw [List.getElem?_take_of_lt hn, kp1 n (fun z => absurd (hw n z) (by omega)), List.getElem?_append_left hn]
  ·rw [List.getElem?_eq_none (by simp; omega), List.getElem?_eq_none hn]
theorem qe_lc (hc : X.calm = true) (T : CyOk X N' scope) (hi : QI X tg iter i) (hg : ∀ cl s H fp pins, QG (cyOf X N' scope cl s H fp pins) tg g W) (ht : ∀ cl s H fp pins, QIf (cyOf X N' scope cl s H fp pins) ifs t)
  (he : ∀ cl s H fp pins, QE (cyOf X N' scope cl s H fp pins) elt c) (hw : ∀ i ∈ W, X.N.length ≤ i) (hs : autoParam (∀ x, foldedSetIterable iter X.env x = pure x) Ax3._auto_1) :
  QE X (.ListComp elt [⟨tg, iter, ifs, 0⟩] scope pos) (dLc (N'.length - X.N.length) i g t c) := by
 rintro pins s σ H Q I ⟨F, R, σD, d, σD', r, ec, k⟩
 have hlen : σ.length = X.N.length := I.len
 refine pe_lc (X := X) (N' := N') (g := rG X.K g W) (tt := rT X.K t) (te := rE X.K c) hc T hi hg ht he hs pins s σ H Q I ?_
 unfold dLc at ec
 rcases h : i σD with _ | ⟨xs, σ1⟩
 ·rw [h] at ec; cases ec
 ·rw [h] at ec; simp only [bind_some] at ec
  split at ec
  ·rename_i hz
   obtain ⟨⟨ys, σ2⟩, e1, e2⟩ := map_pair ec
   cases e2
   refine ⟨F, R, σD, xs, σ1, r, h, fun F1 H1 J x1 r1 j p hp => ?_⟩
   exact lc_go (X := X) (W := W) r1 j hz (fun i hi => by rw [hlen]; exact hw i hi) e1 (fun F2 H2 v x2 r2 => k F2 H2 v (x1.trans x2) r2) p hp
  ·cases ec
theorem qs_set_lc (ix : Nat) {y : Str} {py spos : Pos} (hN : X.N.Nodup) (hc : X.calm = true) (T : CyOk X N' scope) (hi : QI X tg iter i) (hg : ∀ cl s H fp pins, QG (cyOf X N' scope cl s H fp pins) tg g W) (ht : ∀ cl s H fp pins, QIf (cyOf X N' scope cl s H fp pins) ifs t)
  (he : ∀ cl s H fp pins, QE (cyOf X N' scope cl s H fp pins) elt c) (hw : ∀ i ∈ W, X.N.length ≤ i) (hsw : swapsWith (.ListComp elt [⟨tg, iter, ifs, 0⟩] scope pos) (some (.Name y py)) spos.line X.env = pure true)
  (hiN : autoParam (X.N[ix]? = some y) Ax4._auto_1) (hx : autoParam (Loc X.env.scope y) Ax8._auto_1) (hs : autoParam (∀ x, foldedSetIterable iter X.env x = pure x) Ax3._auto_1) (hf : autoParam (X.fn y = true ∨ X.env.scope.names.lookup y = some .local) Ax0._auto_1) :
  QS X (.Assign [.Name y py] (.ListComp elt [⟨tg, iter, ifs, 0⟩] scope pos) spos) (sSet ix (dLc (N'.length - X.N.length) i g t c)) [ix] := by
 rintro pins s σ H En I ⟨F, R, σD, o, r, ec, k⟩
 have hlen : σ.length = X.N.length := I.len
 refine ps_set_lc (X := X) (N' := N') (g := rG X.K g W) (tt := rT X.K t) (te := rE X.K c) hN hiN hx hsw hc T hi hg ht he hs hf pins s σ H En I ?_
 unfold sSet at ec
 rcases h0 : dLc (N'.length - X.N.length) i g t c σD with _ | ⟨d0, σ0⟩
 ·rw [h0] at ec; cases ec
 ·rw [h0] at ec; simp only [bind_some] at ec
  split at ec
  ·rename_i hl
   cases ec
   unfold dLc at h0
   rcases h : i σD with _ | ⟨xs, σ1⟩
   ·rw [h] at h0; cases h0
   ·rw [h] at h0; simp only [bind_some] at h0
    split at h0
    ·rename_i hz
     obtain ⟨⟨ys, σ2⟩, e1, e2⟩ := map_pair h0
     cases e2
     refine ⟨F, R, σD, xs, σ1, r, h, fun F1 H1 J x1 r1 j p hp => ?_⟩
     exact lc_go (X := X) (W := W) (Q := fun x H1 => gName ix x σ H1 En.nx) r1 j hz (fun i hi => by rw [hlen]; exact hw i hi) e1 (fun F2 H2 v x2 r2 => k F2 H2 _ (x1.trans x2) Kp.set (r2.store (by rw [← r2.mt.length]; exact hl))) p hp
    ·cases h0
  ·cases ec
end
end DD
namespace DD
open PySem PySem.Spec PyProof.Rows L2
mutual
noncomputable def D.py : D → Option PyData
 | .non => some .none
 | .bl b => some (.bool b)
 | .int i => some (.int i)
 | .str x => some (.str x)
 | .lst _ xs => (D.pyL xs).map .list
 | .tup xs => (D.pyL xs).map .tuple
 | _ => none
noncomputable def D.pyL : List D → Option (List PyData)
 | [] => some []
 | x :: xs => (D.py x).bind fun p => (D.pyL xs).map fun ps => p :: ps
end
section
variable {X : Cx} {pins : List (Addr × Obj)} {σ : St} {H : Hp} {s : Shared} {F : Addr → Prop}
theorem obj_list (I : L2.Inv X pins σ H s) {a : Addr} {vs : List V} (h : SqL X.K H a vs) : ∃ its o n, Vals vs its ∧ s.heap.get? a = some o ∧ o.cls = .type "list" ∧ o.data = .seq its.toArray n := by
 obtain ⟨its, r, ⟨o, n, e, c, _, d⟩, _⟩ := I.list h
 exact ⟨its, o, n, r, e, c, d⟩
theorem obj_tup (I : L2.Inv X pins σ H s) {a : Addr} {vs : List V} (h : SqT X.K H a vs) : ∃ its o n, Vals vs its ∧ s.heap.get? a = some o ∧ o.cls = .type "tuple" ∧ o.data = .seq its.toArray n := by
 obtain ⟨its, r, ⟨o, e, c, n, d⟩, _⟩ := I.tuple h
 exact ⟨its, o, n, r, e, c, d⟩
mutual
theorem reads_of (I : L2.Inv X pins σ H s) : ∀ {d : D} {v : V} {L : List Addr} {p : PyData} {u : Value}, Ow X.K F H d v L → d.py = some p → RelV v u → ∃ as, Reads s.heap u p as
 | .non, v, L, p, u, o, e, r => by simp only [D.py, Ow] at e o; cases e; obtain ⟨rfl, _⟩ := o; cases r; exact ⟨_, .none⟩
 | .bl b, v, L, p, u, o, e, r => by simp only [D.py, Ow] at e o; cases e; obtain ⟨rfl, _⟩ := o; cases r; exact ⟨_, .bool b⟩
 | .int i, v, L, p, u, o, e, r => by simp only [D.py, Ow] at e o; cases e; obtain ⟨rfl, _⟩ := o; obtain ⟨t, rfl⟩ := r; exact ⟨_, .int i t⟩
 | .str x, v, L, p, u, o, e, r => by simp only [D.py, Ow] at e o; cases e; obtain ⟨rfl, _⟩ := o; obtain ⟨t, rfl⟩ := r; exact ⟨_, .str x t⟩
 | .lst own xs, v, L, p, u, o, e, r => by
  simp only [D.py] at e
  rcases h : D.pyL xs with _ | ps
  ·rw [h] at e; cases e
  ·rw [h] at e; cases e
   obtain ⟨a, vs, rfl, sq, L', ol⟩ := Bor.lst ⟨L, o⟩
   cases r
   obtain ⟨its, ob, n, rv, e1, e2, e3⟩ := obj_list I sq
   obtain ⟨as, ra⟩ := readsL_of I ol h rv
   exact ⟨_, .list e1 e2 e3 ra⟩
 | .tup xs, v, L, p, u, o, e, r => by
  simp only [D.py] at e
  rcases h : D.pyL xs with _ | ps
  ·rw [h] at e; cases e
  ·rw [h] at e; cases e
   obtain ⟨a, vs, rfl, sq, L', ol⟩ := Bor.tup ⟨L, o⟩
   cases r
   obtain ⟨its, ob, n, rv, e1, e2, e3⟩ := obj_tup I sq
   obtain ⟨as, ra⟩ := readsL_of I ol h rv
   exact ⟨_, .tuple e1 e2 e3 ra⟩
 | .hole, _, _, _, _, _, e, _ => by simp only [D.py] at e; cases e
 | .cell, _, _, _, _, _, e, _ => by simp only [D.py] at e; cases e
 | .node _ _, _, _, _, _, _, e, _ => by simp only [D.py] at e; cases e
 | .pin _ _, _, _, _, _, _, e, _ => by simp only [D.py] at e; cases e
 | .ty _, _, _, _, _, _, e, _ => by simp only [D.py] at e; cases e
 | .cls _, _, _, _, _, _, e, _ => by simp only [D.py] at e; cases e
 | .obj _ _ _ _, _, _, _, _, _, e, _ => by simp only [D.py] at e; cases e
 | .dct _ _ _, _, _, _, _, _, e, _ => by simp only [D.py] at e; cases e
theorem readsL_of (I : L2.Inv X pins σ H s) : ∀ {xs : List D} {vs : List V} {L : List Addr} {ps : List PyData} {us : List Value}, OwL X.K F H xs vs L → D.pyL xs = some ps → Vals vs us → ∃ as, ReadsAll s.heap us ps as
 | [], vs, L, ps, us, o, e, r => by
  simp only [D.pyL, OwL] at e o
  cases e
  obtain ⟨rfl, _⟩ := o
  cases r
  exact ⟨_, .nil⟩
 | x :: xs, vs, L, ps, us, o, e, r => by
  simp only [D.pyL, OwL] at e o
  obtain ⟨v, ws, L1, L2, rfl, o1, o2, _⟩ := o
  rcases h1 : D.py x with _ | p
  ·rw [h1] at e; cases e
  ·rw [h1] at e; simp only [bind_some] at e
   rcases h2 : D.pyL xs with _ | qs
   ·rw [h2] at e; cases e
   ·rw [h2] at e; cases e
    cases r with
    | cons r1 r2 =>
     obtain ⟨as, ra⟩ := reads_of I o1 h1 r1
     obtain ⟨bs, rb⟩ := readsL_of I o2 h2 r2
     exact ⟨_, .cons ra rb⟩
end
theorem Bor.reads (I : L2.Inv X pins σ H s) {d : D} {v : V} {p : PyData} {u : Value} (b : Bor X.K F H d v) (e : d.py = some p) (r : RelV v u) : ∃ as, Reads s.heap u p as := by
 obtain ⟨L, o⟩ := b
 exact reads_of I o e r
end
noncomputable def pyOk (p q : PyData) : Bool := p.canLay0 && q.canLay0 && decide (min p.depth q.depth ≤ 50)
noncomputable def gEq : D → D → Option D := fun x y => x.py.bind fun p => y.py.bind fun q => if pyOk p q = true then some (.bl (PyData.eqv p q)) else none
noncomputable def gNe : D → D → Option D := fun x y => x.py.bind fun p => y.py.bind fun q => if pyOk p q = true then some (.bl (!PyData.eqv p q)) else none
section
variable {X : Cx}
theorem gEq_some {x y d : D} (h : gEq x y = some d) : ∃ p q, x.py = some p ∧ y.py = some q ∧ p.canLay0 = true ∧ q.canLay0 = true ∧ min p.depth q.depth ≤ 50 ∧ d = .bl (PyData.eqv p q) := by
 unfold gEq at h
 rcases h1 : x.py with _ | p
 ·rw [h1] at h; cases h
 ·rw [h1] at h; simp only [bind_some] at h
  rcases h2 : y.py with _ | q
  ·rw [h2] at h; cases h
  ·rw [h2] at h; simp only [bind_some] at h
   split at h
   ·rename_i hk
    cases h
    simp only [pyOk, Bool.and_eq_true, decide_eq_true_eq] at hk
    exact ⟨p, q, rfl, rfl, hk.1.1, hk.1.2, hk.2, rfl⟩
   ·cases h
theorem gNe_some {x y d : D} (h : gNe x y = some d) : ∃ p q, x.py = some p ∧ y.py = some q ∧ p.canLay0 = true ∧ q.canLay0 = true ∧ min p.depth q.depth ≤ 50 ∧ d = .bl (!PyData.eqv p q) := by
 unfold gNe at h
 rcases h1 : x.py with _ | p
 ·rw [h1] at h; cases h
 ·rw [h1] at h; simp only [bind_some] at h
  rcases h2 : y.py with _ | q
  ·rw [h2] at h; cases h
  ·rw [h2] at h; simp only [bind_some] at h
   split at h
   ·rename_i hk
    cases h
    simp only [pyOk, Bool.and_eq_true, decide_eq_true_eq] at hk
    exact ⟨p, q, rfl, rfl, hk.1.1, hk.1.2, hk.2, rfl⟩
   ·cases h
theorem o_eq (hu : X.A.units + 64 < cLine) : OpS X (compareOp .Eq) gEq := by
 refine ⟨fun pins s σ H x y v u Q I rx ry pz => ?_, fun x y d h => ?_⟩
 ·obtain ⟨F, dx, dy, d, w, b1, b2, eg, hw, q⟩ := pz
  obtain ⟨p, r, e1, e2, c1, c2, hd, rfl⟩ := gEq_some eg
  cases hw
  obtain ⟨as, ra⟩ := b1.reads I e1 rx
  obtain ⟨bs, rb⟩ := b2.reads I e2 ry
  exact SeqAt.eqOverData _ _ _ _ _ _ _ _ _ _ _ _ ra rb c1 c2 (by omega) ⟨.bl _, H, I, rfl, q⟩
 ·obtain ⟨p, r, _, _, _, _, _, rfl⟩ := gEq_some h
  exact ⟨_, rfl⟩
theorem o_ne (hu : X.A.units + 64 < cLine) : OpS X (compareOp .NotEq) gNe := by
 refine ⟨fun pins s σ H x y v u Q I rx ry pz => ?_, fun x y d h => ?_⟩
 ·obtain ⟨F, dx, dy, d, w, b1, b2, eg, hw, q⟩ := pz
  obtain ⟨p, r, e1, e2, c1, c2, hd, rfl⟩ := gNe_some eg
  cases hw
  obtain ⟨as, ra⟩ := b1.reads I e1 rx
  obtain ⟨bs, rb⟩ := b2.reads I e2 ry
  exact SeqAt.neOverData _ _ _ _ _ _ _ _ _ _ _ _ ra rb c1 c2 (by omega) ⟨.bl _, H, I, rfl, q⟩
 ·obtain ⟨p, r, _, _, _, _, _, rfl⟩ := gNe_some h
  exact ⟨_, rfl⟩
end
noncomputable def BorL (K : PySem.W.Frag) (F : Addr → Prop) (H : Hp) : List D → List V → Prop
 | [], [] => True
 | d :: ds, v :: vs => Bor K F H d v ∧ BorL K F H ds vs
 | _, _ => False
theorem BorL.of {K : PySem.W.Frag} {F : Addr → Prop} {H : Hp} {σD : DSt} {σ : St} : ∀ {ds : List D} {vs : List V} {R : Ro}, ds.length = vs.length → Rel K F H σD σ (ds.zip vs ++ R) → BorL K F H ds vs := by
 intro ds
 induction ds with
 | nil =>
  intro vs R h r
  cases vs with
  | nil => trivial
  | cons _ _ => cases h
 | cons d ds ih =>
  intro vs R h r
  cases vs with
  | nil => cases h
  | cons v vs => exact ⟨r.bor List.mem_cons_self, ih (R := R) (Nat.succ.inj h) (Rel.pop (R := ds.zip vs ++ R) r)⟩
structure CallS (X : Cx) (f : Value) (g : List D → Option D) : Prop where
 run : CallR X f (fun vs H Q => ∃ F ds d w, BorL X.K F H ds vs ∧ g ds = some d ∧ d.sc = some w ∧ Q w H)
 sc : ∀ ds d, g ds = some d → ∃ w, d.sc = some w
noncomputable def evB : List DP → DSt → Option (List D)
 | [], _ => some []
 | p :: ps, σ => (p σ).bind fun d => (evB ps σ).map fun ds => d :: ds
noncomputable def pCall (g : List D → Option D) (ps : List DP) : DP := fun σ => (evB ps σ).bind g
noncomputable def dCallB (g : List D → Option D) (ca : DA) : DE := fun σ => (ca σ).bind fun p => (g p.1).map fun d => (d, p.2)
noncomputable def rBA (K : PySem.W.Frag) (ps : List DP) : TA := fun σ H Q => ∃ F R σD ds, Rel K F H σD σ R ∧ evB ps σD = some ds ∧ ∀ F' H' vs, Grow F H F' H' → BorL K F' H' ds vs → Q vs H'
noncomputable def QBA (X : Cx) (es : List Expr) (ps : List DP) : Prop := PA X es (rBA X.K ps)
section
variable {X : Cx} {e : Expr} {es : List Expr} {p : DP} {ps : List DP} {x : Str} {p1 pos : Pos} {id T : String} {g : List D → Option D} {ca : DA}
theorem qba_nil : QBA X [] [] := PA_imp pa_nil fun σ H Q hq0 => by
 obtain ⟨F, R, σD, ds, r, ec, k⟩ := hq0
 cases ec; exact k F H [] Grow.refl trivial
theorem qba_cons (ha : QB X e p) (hr : QBA X es ps) (hs : autoParam (starEach (e :: es) X.env = (false, eval e X.env) :: starEach es X.env) Ax4._auto_1) : QBA X (e :: es) (p :: ps) := PA_imp (pa_cons ha hr hs) fun σ H Q hq0 => by
 obtain ⟨F, R, σD, ds, r, ec, k⟩ := hq0
 simp only [evB] at ec
 rcases h1 : p σD with _ | d
 ·rw [h1] at ec; cases ec
 ·rw [h1] at ec; simp only [bind_some] at ec
  rcases h2 : evB ps σD with _ | ds2
  ·rw [h2] at ec; cases ec
  ·rw [h2] at ec; cases ec
   refine ⟨F, R, σD, d, r, h1, fun F1 H1 v g1 b1 => ?_⟩
   exact ⟨F1, R, σD, ds2, r.grow g1, h2, fun F2 H2 vs g2 b2 => k F2 H2 (v :: vs) (g1.trans g2) ⟨b1.grow g2, b2⟩⟩
theorem pCall_of {f : Value} (hc : CallS X f g) {σ : St} {H : Hp} {Q : VK} (h : rB X.K (pCall g ps) σ H Q) : tCB (fun vs H Q => ∃ F ds d w, BorL X.K F H ds vs ∧ g ds = some d ∧ d.sc = some w ∧ Q w H) (rBA X.K ps) σ H Q := by
 obtain ⟨F, R, σD, d, r, ec, k⟩ := h
 unfold pCall at ec
 rcases h1 : evB ps σD with _ | ds
 ·rw [h1] at ec; cases ec
 ·rw [h1] at ec; simp only [bind_some] at ec
  obtain ⟨w, hw⟩ := hc.sc _ _ ec
  exact ⟨F, R, σD, ds, r, h1, fun F1 H1 vs g1 b1 => ⟨F1, ds, d, w, b1, ec, hw, k F1 H1 w g1 ⟨[], Ow.of_sc hw⟩⟩⟩
theorem dCall_of {f : Value} (hc : CallS X f g) {σ : St} {H : Hp} {Q : VK} (h : rE X.K (dCallB g ca) σ H Q) : tCB (fun vs H Q => ∃ F ds d w, BorL X.K F H ds vs ∧ g ds = some d ∧ d.sc = some w ∧ Q w H) (rA X.K ca) σ H Q := by
 obtain ⟨F, R, σD, d, σD', r, ec, k⟩ := h
 unfold dCallB at ec
 rcases h1 : ca σD with _ | ⟨ds, σ1⟩
 ·rw [h1] at ec; cases ec
 ·rw [h1] at ec; simp only [bind_some] at ec
  obtain ⟨z, e1, e2⟩ := map_pair ec
  cases e2
  obtain ⟨w, hw⟩ := hc.sc _ _ e1
  exact ⟨F, R, σD, ds, _, r, h1, fun F1 H1 vs x1 hl r1 => ⟨F1, ds, _, w, BorL.of hl r1, e1, hw, k F1 H1 w x1 ((r1.popN).scal hw)⟩⟩
theorem qb_fn (hc : CallS X (.builtin id) g) (hg : Gl X x) (hm : X.mg x = none) (hv : bootBuiltins x = some (.builtin id)) (ha : QBA X (e :: es) ps) (hn : autoParam (x ≠ "__name__") Ax1._auto_1) (hdb : autoParam ((x == ("__debug__" : Str)) = false) Ax1._auto_1)
  (he : autoParam (starEach (e :: es) X.env = (false, eval e X.env) :: starEach es X.env) Ax4._auto_1) (hpl : autoParam ((backTo pos (starEach es X.env)).any (·.1) = false) Ax4._auto_1) : QB X (.Call (.Name x p1) (e :: es) [] pos) (pCall g ps) :=
 PE_imp (pe_callB hc.run hg hm hv ha hn hdb he hpl) fun _ _ _ h => pCall_of hc h
theorem qe_fn (hc : CallS X (.builtin id) g) (hg : Gl X x) (hm : X.mg x = none) (hv : bootBuiltins x = some (.builtin id)) (ha : QA X (e :: es) ca) (hn : autoParam (x ≠ "__name__") Ax1._auto_1) (hdb : autoParam ((x == ("__debug__" : Str)) = false) Ax1._auto_1)
  (he : autoParam (starEach (e :: es) X.env = (false, eval e X.env) :: starEach es X.env) Ax4._auto_1) (hpl : autoParam ((backTo pos (starEach es X.env)).any (·.1) = false) Ax4._auto_1) : QE X (.Call (.Name x p1) (e :: es) [] pos) (dCallB g ca) :=
 PE_imp (pe_callB hc.run hg hm hv ha hn hdb he hpl) fun _ _ _ h => dCall_of hc h
theorem qb_tyname {T : String} (hg : Gl X x) (hm : X.mg x = none) (hv : bootBuiltins x = some (.type T)) (hn : autoParam (x ≠ "__name__") Ax1._auto_1) (hd : autoParam ((x == ("__debug__" : Str)) = false) Ax1._auto_1) : QB X (.Name x pos) (pC (.ty T)) :=
 PE_imp (pe_bltn (v := .ty T) hg hm hv rfl hn hd) fun σ H Q hq0 => by obtain ⟨F, R, σD, d, r, ec, k⟩ := hq0; cases ec; exact k F H _ Grow.refl ⟨[], Ow.of_sc rfl⟩
end
end DD
namespace DD
open PySem PySem.Spec PyProof.Rows L2
section
variable {X : Cx}
theorem CallR_imp {f : Value} {r r' : List V → Hp → VK → Prop} (h : CallR X f r) (i : ∀ xs H Q, r' xs H Q → r xs H Q) : CallR X f r' := fun pins s σ H xs us Q I rv h' => h pins s σ H xs us Q I rv (i xs H Q h')
theorem BorL.one {K : PySem.W.Frag} {F : Addr → Prop} {H : Hp} {d : D} : ∀ {vs : List V}, BorL K F H [d] vs → ∃ v, vs = [v] ∧ Bor K F H d v
 | [v], h => ⟨v, rfl, h.1⟩
theorem BorL.two {K : PySem.W.Frag} {F : Addr → Prop} {H : Hp} {d e : D} : ∀ {vs : List V}, BorL K F H [d, e] vs → ∃ v w, vs = [v, w] ∧ Bor K F H d v ∧ Bor K F H e w := by
 intro vs h
 cases vs with
 | nil => exact h.elim
 | cons v vs => cases vs with
  | nil => exact h.2.elim
  | cons w vs => cases vs with
   | nil => exact ⟨v, w, rfl, h.1, h.2.1⟩
   | cons _ _ => exact h.2.2.elim
noncomputable def lenD : List D → Option D
 | [.lst _ xs] => some (.int xs.length)
 | [.tup xs] => some (.int xs.length)
 | [.str z] => if z.length ≤ sizeLine then some (.int z.length) else none
 | _ => none
theorem c_len : CallS X (.builtin "len") lenD := by
 refine ⟨CallR_imp (call_len_seq.or call_len_str) fun vs H Q pz => ?_, fun ds d h => ?_⟩
 ·obtain ⟨F, ds, d, w, b, eg, hw, q⟩ := pz
  unfold lenD at eg
  split at eg
  ·cases eg; cases hw
   obtain ⟨v, rfl, bv⟩ := b.one
   obtain ⟨a, us, rfl, sq, L, ol⟩ := bv.lst
   exact .inl ⟨a, us, rfl, .inl sq, by rw [ol.length]; exact q⟩
  ·cases eg; cases hw
   obtain ⟨v, rfl, bv⟩ := b.one
   obtain ⟨a, us, rfl, sq, L, ol⟩ := bv.tup
   exact .inl ⟨a, us, rfl, .inr sq, by rw [ol.length]; exact q⟩
  ·split at eg
   ·rename_i hz
    cases eg; cases hw
    obtain ⟨v, rfl, bv⟩ := b.one
    exact .inr ⟨_, by rw [bv.str], hz, q⟩
   ·cases eg
  ·cases eg
 ·unfold lenD at h
  split at h
  ·cases h; exact ⟨_, rfl⟩
  ·cases h; exact ⟨_, rfl⟩
  ·split at h
   ·cases h; exact ⟨_, rfl⟩
   ·cases h
  ·cases h
noncomputable def absD : List D → Option D
 | [.int i] => some (.int (if i < 0 then -i else i))
 | _ => none
theorem c_abs : CallS X (.builtin "abs") absD := by
 refine ⟨CallR_imp call_abs fun vs H Q pz => ?_, fun ds d h => ?_⟩
 ·obtain ⟨F, ds, d, w, b, eg, hw, q⟩ := pz
  unfold absD at eg
  split at eg
  ·cases eg; cases hw
   obtain ⟨v, rfl, bv⟩ := b.one
   exact ⟨_, by rw [bv.int], q⟩
  ·cases eg
 ·unfold absD at h
  split at h <;> first | (cases h; exact ⟨_, rfl⟩) | cases h
noncomputable def max2D : List D → Option D
 | [.int i, .int j] => some (.int (if j > i then j else i))
 | _ => none
noncomputable def min2D : List D → Option D
 | [.int i, .int j] => some (.int (if j < i then j else i))
 | _ => none
theorem c_max2 (hc : X.calm = true) : CallS X (.builtin "max") max2D := by
 refine ⟨CallR_imp (call_max2 hc) fun vs H Q pz => ?_, fun ds d h => ?_⟩
 ·obtain ⟨F, ds, d, w, b, eg, hw, q⟩ := pz
  unfold max2D at eg
  split at eg
  ·cases eg; cases hw
   obtain ⟨v, u, rfl, bv, bu⟩ := b.two
   exact ⟨_, _, by rw [bv.int, bu.int], q⟩
  ·cases eg
 ·unfold max2D at h
  split at h <;> first | (cases h; exact ⟨_, rfl⟩) | cases h
theorem c_min2 (hc : X.calm = true) : CallS X (.builtin "min") min2D := by
 refine ⟨CallR_imp (call_min2 hc) fun vs H Q pz => ?_, fun ds d h => ?_⟩
 ·obtain ⟨F, ds, d, w, b, eg, hw, q⟩ := pz
  unfold min2D at eg
  split at eg
  ·cases eg; cases hw
   obtain ⟨v, u, rfl, bv, bu⟩ := b.two
   exact ⟨_, _, by rw [bv.int, bu.int], q⟩
  ·cases eg
 ·unfold min2D at h
  split at h <;> first | (cases h; exact ⟨_, rfl⟩) | cases h
noncomputable def kindD : D → Option Value
 | .non => some (.type "NoneType")
 | .bl _ => some (.type "bool")
 | .int _ => some (.type "int")
 | .str _ => some (.type "str")
 | .lst _ _ => some (.type "list")
 | .tup _ => some (.type "tuple")
 | _ => none
noncomputable def isiA : List String := ["NoneType", "bool", "int", "str", "list", "tuple"]
noncomputable def isiB : List String := ["int", "bool", "str", "list", "tuple"]
noncomputable def isiT (a b : String) : Option Bool := if (isiA.contains a && isiB.contains b) = true then some (a == b || (a == "bool" && b == "int")) else none
noncomputable def kindN : D → Option String
 | .non => some "NoneType"
 | .bl _ => some "bool"
 | .int _ => some "int"
 | .str _ => some "str"
 | .lst _ _ => some "list"
 | .tup _ => some "tuple"
 | _ => none
theorem kindN_D {x : D} {a : String} (h : kindN x = some a) : kindD x = some (.type a) := by
 cases x <;> first | (cases h; rfl) | cases h
noncomputable def isiD (ds : List D) : Option D := match ds with
 | [x, .ty t] => (kindN x).bind fun a => (isiT a t).map .bl
 | _ => none
theorem isiT_kit {K : PySem.W.Frag} {a b : String} {k : Bool} (h : isiT a b = some k) : PySem.W.kitOne K (.type a) (.type b) = some k := by
 unfold isiT at h
 split at h
 ·rename_i hc
  rw [Bool.and_eq_true, List.contains_iff_mem, List.contains_iff_mem] at hc
  obtain ⟨ha, hb⟩ := hc
  simp only [isiA, isiB, List.mem_cons, List.not_mem_nil, or_false] at ha hb
  rcases ha with rfl | rfl | rfl | rfl | rfl | rfl <;> rcases hb with rfl | rfl | rfl | rfl | rfl <;> (cases h; rfl)
 ·cases h
theorem map_bl {o : Option Bool} {d : D} (h : o.map D.bl = some d) : ∃ k, o = some k ∧ d = .bl k := by
 cases o with
 | none => cases h
 | some k => cases h; exact ⟨k, rfl, rfl⟩
theorem isi_run {pins : List (Addr × Obj)} {σ : St} {H : Hp} {s : Shared} {F : Addr → Prop} {x : D} {v : V} {u : Value} {t c : Value} {b : Bool} {Q : Value → Shared → Prop} {E : Value → Shared → Prop} (I : L2.Inv X pins σ H s) (bo : Bor X.K F H x v) (rv : RelV v u) (hk : kindD x = some t)
  (e : PySem.W.kitOne X.K t c = some b) (h : ∀ tk, Q (.bool b) { s with toks := tk }) : wpAny (model X.prog X.w) X.A (call (.builtin "isinstance") [u, c]) Q E s := by
 unfold kindD at hk
 split at hk
 ·cases hk; rw [bo.sc (w := .non) rfl] at rv; exact isinst_ok I rv (.non) e h
 ·cases hk; rw [bo.bl] at rv; exact isinst_ok I rv (.bl _) e h
 ·cases hk; rw [bo.int] at rv; exact isinst_ok I rv (.int _) e h
 ·cases hk; rw [bo.str] at rv; exact isinst_ok I rv (.str _) e h
 ·cases hk
  obtain ⟨a, vs, rfl, sq, L, ol⟩ := bo.lst
  cases rv
  obtain ⟨its, o, n, _, e1, e2, e3⟩ := obj_list I sq
  exact PySem.W.kia_one PySem.W.kitx_list I.kIn ⟨_, e1, e2⟩ e (fun z => nomatch z) h
 ·cases hk
  obtain ⟨a, vs, rfl, sq, L, ol⟩ := bo.tup
  cases rv
  obtain ⟨its, o, n, _, e1, e2, e3⟩ := obj_tup I sq
  exact PySem.W.kia_one PySem.W.kitx_tuple I.kIn ⟨_, e1, e2⟩ e (fun z => nomatch z) h
 ·cases hk
theorem c_isi : CallS X (.builtin "isinstance") isiD := by
 refine ⟨fun pins s σ H vs us Q I rv pz => ?_, fun ds d h => ?_⟩
 ·obtain ⟨F, ds, d, w, b, eg, hw, q⟩ := pz
  have key : ∀ {x : D} {a t : String}, ds = [x, .ty t] → kindD x = some (.type a) → (isiT a t).map D.bl = some d → wpAny (model X.prog X.w) X.A (call (.builtin "isinstance") us) (EP X pins σ Q) X.xe s := fun {x a t} e1 e2 e3 => by
   subst e1
   obtain ⟨k, e4, rfl⟩ := map_bl e3
   cases hw
   obtain ⟨v, u, rfl, bv, bu⟩ := b.two
   obtain ⟨u1, u2, rfl, r1, r2⟩ := vals2 rv
   have hu : u = .ty t := bu.sc rfl
   subst hu
   cases r2
   exact isi_run I bv r1 e2 (isiT_kit e4) fun tk => ⟨.bl k, H, I.tok tk, rfl, q⟩
  unfold isiD at eg
  split at eg
  ·rename_i x t
   rcases hk : kindN x with _ | a
   ·rw [hk] at eg; cases eg
   ·rw [hk] at eg
    exact key rfl (kindN_D hk) eg
  ·cases eg
 ·unfold isiD at h
  split at h
  ·rename_i x t
   rcases hk : kindN x with _ | a
   ·rw [hk] at h; cases h
   ·rw [hk] at h
    obtain ⟨k, _, rfl⟩ := map_bl h
    exact ⟨_, rfl⟩
  ·cases h
noncomputable def intsOf : List D → Option (List Int)
 | [] => some []
 | .int i :: xs => (intsOf xs).map fun r => i :: r
 | _ => none
noncomputable def sumD : List D → Option D
 | [.lst _ xs] => (intsOf xs).map fun ns => .int ns.sum
 | _ => none
theorem intsOf_map {xs : List D} {ns : List Int} (h : intsOf xs = some ns) : xs = ns.map D.int := by
 induction xs generalizing ns with
 | nil => cases h; rfl
 | cons x xs ih =>
  cases x <;> first | (simp only [intsOf] at h; cases hh : intsOf xs with | none => rw [hh] at h; cases h | some r => rw [hh] at h; cases h; rw [ih hh]; rfl) | (simp only [intsOf] at h; cases h)
theorem OwL.ints {K : PySem.W.Frag} {F : Addr → Prop} {H : Hp} : ∀ {ns : List Int} {vs : List V} {L : List Addr}, OwL K F H (ns.map D.int) vs L → vs = ns.map V.int
 | [], vs, L, h => by simp only [List.map_nil, OwL] at h; exact h.1
 | n :: ns, vs, L, h => by
  simp only [List.map_cons, OwL] at h
  obtain ⟨v, ws, L1, L2, rfl, o, ol, _⟩ := h
  rw [(o.sc (w := .int n) rfl).1, OwL.ints ol]; rfl
theorem c_sum (hc : X.calm = true) : CallS X (.builtin "sum") sumD := by
 refine ⟨fun pins s σ H vs us Q I rv pz => ?_, fun ds d h => ?_⟩
 ·obtain ⟨F, ds, d, w, b, eg, hw, q⟩ := pz
  unfold sumD at eg
  split at eg
  ·rename_i own xs
   rcases hns : intsOf xs with _ | ns
   ·rw [hns] at eg; cases eg
   ·rw [hns] at eg; cases eg; cases hw
    have ex := intsOf_map hns
    subst ex
    obtain ⟨v, rfl, bv⟩ := b.one
    obtain ⟨a, ws, rfl, sq, L, ol⟩ := bv.lst
    obtain ⟨u, rfl, ru⟩ := vals1 rv
    cases ru
    obtain ⟨its, r, pl, _⟩ := I.list sq
    rw [ol.ints] at r
    have hi : IntsAre its ns := intsAre_of r
    obtain ⟨ys, hy⟩ := hi.allInts.items
    refine sum_intListG (xs := ys) (I.ok.hd hc) (by rw [← hy]; exact pl.isList) fun h' tk t' hk => ⟨.int ns.sum, H, I.kept hk, ?_, q⟩
    have : (preSum (numAt ys) ys.size) = ns.sum := by
     rw [preSum_eq, List.take_of_length_le (by simp), ← nums_intItems, ← hy]
     rw [show its.toArray.toList = its from rfl, hi.numsOf]
    rw [this]
    exact ⟨t', rfl⟩
  ·cases eg
 ·unfold sumD at h
  split at h
  ·rcases hh : intsOf _ with _ | r
   ·rw [hh] at h; cases h
   ·rw [hh] at h; cases h; exact ⟨_, rfl⟩
  ·cases h
end
end DD
namespace DD
open PySem PySem.Spec PyProof.Rows L2
noncomputable def getP : D → List Int → Option D
 | t, [] => some t
 | .lst _ xs, j :: js => (atI xs j).bind fun x => getP x js
 | .tup xs, j :: js => (atI xs j).bind fun x => getP x js
 | _, _ :: _ => none
noncomputable def setP : D → List Int → D → D
 | _, [], d => d
 | .lst o xs, j :: js, d => match ixN xs.length j with | some k => (match xs[k]? with | some x => .lst o (xs.set k (setP x js d)) | none => .lst o xs) | none => .lst o xs
 | .tup xs, j :: js, d => match ixN xs.length j with | some k => (match xs[k]? with | some x => .tup (xs.set k (setP x js d)) | none => .tup xs) | none => .tup xs
 | t, _ :: _, _ => t
noncomputable def Lc (H : Hp) : V → List Int → V → Prop
 | v, [], w => w = v
 | v, j :: js, w => ∃ a vs u, v = .ref a ∧ (H a = some (.lst vs) ∨ H a = some (.tup vs)) ∧ atI vs j = some u ∧ Lc H u js w
theorem atI_ix {α : Type} {xs : List α} {j : Int} {x : α} (h : atI xs j = some x) : ∃ k, ixN xs.length j = some k ∧ xs[k]? = some x := by
 unfold atI at h
 rcases hk : ixN xs.length j with _ | k
 ·rw [hk] at h; cases h
 ·rw [hk] at h; exact ⟨k, rfl, h⟩
section
variable {K : PySem.W.Frag} {F F' : Addr → Prop} {H H' : Hp} {σD : DSt} {σ : St} {R S S' : Ro}
theorem Lc.grow {H H' : Hp} (k : ∀ a o, H a = some o → H' a = some o) : ∀ {js : List Int} {v w : V}, Lc H v js w → Lc H' v js w
 | [], _, _, h => h
 | j :: js, _, _, ⟨a, vs, u, e, h, hu, r⟩ => ⟨a, vs, u, e, by rcases h with h | h; exact .inl (k _ _ h); exact .inr (k _ _ h), hu, Lc.grow k r⟩
theorem Lc.snoc : ∀ {js : List Int} {j : Int} {v w : V}, Lc H v (js ++ [j]) w → ∃ u, Lc H v js u ∧ Lc H u [j] w := by
 intro js
 induction js with
 | nil => intro j v w h; exact ⟨v, rfl, h⟩
 | cons i js ih =>
  intro j v w h
  obtain ⟨a, vs, u, e, h, hu, r⟩ := h
  obtain ⟨z, h1, h2⟩ := ih r
  exact ⟨z, ⟨a, vs, u, e, h, hu, h1⟩, h2⟩
theorem Ow.focus : ∀ {js : List Int} {t : D} {v : V} {L : List Addr} {xs : List D}, Ow K F H t v L → getP t js = some (.lst true xs) →
  ∃ l La Lx Lb, Lc H v js (.ref l) ∧ L = La ++ (l :: Lx) ++ Lb ∧ (∃ vs, H l = some (.lst vs) ∧ OwL K F H xs vs Lx) ∧
   ∀ (F' : Addr → Prop) (H' : Hp) (d' : D) (Lx' : List Addr), Ext F H F' H' → (∀ a ∈ La ++ Lb, H' a = H a) → Ow K F' H' d' (.ref l) Lx' → Ow K F' H' (setP t js d') v (La ++ Lx' ++ Lb) := by
 intro js
 induction js with
 | nil =>
  intro t v L xs o e
  simp only [getP] at e
  cases e
  simp only [Ow] at o
  obtain ⟨l, vs, L', rfl, h, ol, rfl⟩ := o
  refine ⟨l, [], L', [], rfl, (List.append_nil _).symm, ⟨vs, h, ol⟩, fun F' H' d' Lx' x k o' => ?_⟩
  simp only [setP, List.nil_append, List.append_nil]
  exact o'
 | cons j js ih =>
  intro t v L xs o e
  cases t with
  | lst b ys =>
   simp only [getP] at e
   rcases h1 : atI ys j with _ | y
   ·rw [h1] at e; cases e
   rw [h1] at e; simp only [bind_some] at e
   obtain ⟨k, hk, hy⟩ := atI_ix h1
   cases b with
   | true =>
    simp only [Ow] at o
    obtain ⟨a, vs, L', rfl, ha, ol, rfl⟩ := o
    obtain ⟨w, La, Ly, Lb, ew, rfl, oy, back⟩ := ol.kid hy
    obtain ⟨l, Ma, Mx, Mb, lc, rfl, hl, back2⟩ := ih oy e
    refine ⟨l, a :: (La ++ Ma), Mx, Mb ++ Lb, ⟨a, vs, w, rfl, .inl ha, ?_, lc⟩, by simp, hl, fun F' H' d' Lx' x kk o' => ?_⟩
    ·unfold atI; rw [ol.length, hk]; exact ew
    ·have o2 := back2 F' H' d' Lx' x (fun b hb => kk b (by simp at hb ⊢; rcases hb with hb | hb <;> simp [hb])) o'
     have o3 := back F' H' _ _ x (fun b hb => kk b (by simp at hb ⊢; rcases hb with hb | hb <;> simp [hb])) o2
     simp only [setP, hk, hy, Ow]
     exact ⟨a, vs, _, rfl, (kk a (by simp)).trans ha, o3, by simp⟩
   | false =>
    exfalso
    simp only [Ow] at o
    obtain ⟨a, vs, rfl, _, ol, rfl⟩ := o
    obtain ⟨w, La, Ly, Lb, ew, eL, oy, back⟩ := ol.kid hy
    obtain ⟨l, Ma, Mx, Mb, lc, rfl, hl, back2⟩ := ih oy e
    simp at eL
  | tup ys =>
   simp only [getP] at e
   rcases h1 : atI ys j with _ | y
   ·rw [h1] at e; cases e
   rw [h1] at e; simp only [bind_some] at e
   obtain ⟨k, hk, hy⟩ := atI_ix h1
   simp only [Ow] at o
   obtain ⟨a, vs, rfl, ft, ol⟩ := o
   obtain ⟨w, La, Ly, Lb, ew, rfl, oy, back⟩ := ol.kid hy
   obtain ⟨l, Ma, Mx, Mb, lc, rfl, hl, back2⟩ := ih oy e
   have ft' : F a ∧ H a = some (.tup vs) := by
    rcases ft with h | ⟨_, h⟩
    ·exact h
    ·simp at h
   refine ⟨l, La ++ Ma, Mx, Mb ++ Lb, ⟨a, vs, w, rfl, .inr ft'.2, ?_, lc⟩, by simp, hl, fun F' H' d' Lx' x kk o' => ?_⟩
   ·unfold atI; rw [ol.length, hk]; exact ew
   ·have o2 := back2 F' H' d' Lx' x (fun b hb => kk b (by simp at hb ⊢; rcases hb with hb | hb <;> simp [hb])) o'
    have o3 := back F' H' _ _ x (fun b hb => kk b (by simp at hb ⊢; rcases hb with hb | hb <;> simp [hb])) o2
    simp only [setP, hk, hy, Ow]
    exact ⟨a, vs, rfl, .inl ⟨(x a ft'.1).1, (x a ft'.1).2.trans ft'.2⟩, by simpa using o3⟩
  | _ => simp only [getP] at e; cases e
theorem Rel.listAt {t : D} {v : V} {js : List Int} {xs : List D} (r : Rel K F H σD σ ((t, v) :: (S ++ R))) (e : getP t js = some (.lst true xs)) :
  ∃ l vs, Lc H v js (.ref l) ∧ H l = some (.lst vs) ∧ xs.length = vs.length ∧ ∀ (ys : List D) (ws : List V) (S' : Ro), (xs.zip vs ++ S).Perm (ys.zip ws ++ S') → ys.length = ws.length →
   Rel K F (upd H l (.lst ws)) σD σ ((setP t js (.lst true ys), v) :: (S' ++ R)) ∧ Ext F H F (upd H l (.lst ws)) := by
 obtain ⟨L, ⟨L1, L23, o1, h23, rfl⟩, nd, nf⟩ := r.front.own
 obtain ⟨l, La, Lx, Lb, lc, rfl, ⟨vs, hl, ol⟩, back⟩ := o1.focus e
 refine ⟨l, vs, lc, hl, ol.toP.1, fun ys ws S' p hlen => ?_⟩
 have h23' : OwP K F H (S ++ (R ++ sl σD σ)) L23 := by rw [← List.append_assoc]; exact h23
 obtain ⟨L2, L3, rfl, h2, h3⟩ := h23'.split
 obtain ⟨M, pm, hM⟩ := (ol.toP.2.append h2).perm p
 obtain ⟨M1, M2, rfl, hM1, hM2⟩ := hM.split
 have all : ((La ++ (l :: Lx) ++ Lb) ++ (L2 ++ L3)).Perm (l :: (La ++ Lb ++ (Lx ++ L2) ++ L3)) := by
  have h1 : ((La ++ (l :: Lx) ++ Lb) ++ (L2 ++ L3)) = La ++ l :: (Lx ++ (Lb ++ (L2 ++ L3))) := by simp
  rw [h1]
  refine List.perm_middle.trans (.cons _ ?_)
  have h2 : La ++ Lb ++ (Lx ++ L2) ++ L3 = La ++ (Lb ++ (Lx ++ (L2 ++ L3))) := by simp
  rw [h2]
  exact (List.perm_append_comm_assoc _ _ _).append_left La
 have nd1 := all.nodup_iff.mp nd
 have nl : ∀ a ∈ La ++ Lb ++ (Lx ++ L2) ++ L3, a ≠ l := fun a ha z => (List.nodup_cons.mp nd1).1 (z ▸ ha)
 have nF : ∀ a, F a → a ≠ l := fun a fa z => nf l (all.mem_iff.mpr (by simp)) (z ▸ fa)
 have x : Ext F H F (upd H l (.lst ws)) := fun a fa => ⟨fa, upd_ne (nF a fa)⟩
 have kM : ∀ a ∈ M1 ++ M2, upd H l (.lst ws) a = H a := fun a ha => upd_ne (nl a (by
  have := pm.mem_iff.mpr ha
  simp at this ⊢
  rcases this with h | h <;> simp [h]))
 have o2 : Ow K F (upd H l (.lst ws)) (.lst true ys) (.ref l) (l :: M1) := by
  simp only [Ow]
  exact ⟨l, ws, M1, rfl, upd_same, OwL.ofP hlen (hM1.mono x fun a ha => kM a (by simp [ha])), rfl⟩
 have o3 := back F (upd H l (.lst ws)) (.lst true ys) (l :: M1) x (fun a ha => upd_ne (nl a (by simp at ha ⊢; rcases ha with h | h <;> simp [h]))) o2
 refine ⟨Rel.of r.mt ⟨⟨(La ++ (l :: M1) ++ Lb) ++ (M2 ++ L3), ⟨_, M2 ++ L3, o3, ?_, rfl⟩, ?_, ?_⟩, fun a fa => ?_⟩, x⟩
 ·show OwP K F (upd H l (.lst ws)) ((S' ++ R) ++ sl σD σ) (M2 ++ L3)
  rw [List.append_assoc]
  exact (hM2.mono x fun a ha => kM a (by simp [ha])).append (h3.mono x fun a ha => upd_ne (nl a (by simp [ha])))
 ·have p2 : ((La ++ (l :: M1) ++ Lb) ++ (M2 ++ L3)).Perm ((La ++ (l :: Lx) ++ Lb) ++ (L2 ++ L3)) := by
   refine List.Perm.trans ?_ all.symm
   have h1 : ((La ++ (l :: M1) ++ Lb) ++ (M2 ++ L3)) = La ++ l :: (M1 ++ (Lb ++ (M2 ++ L3))) := by simp
   rw [h1]
   refine List.perm_middle.trans (.cons _ ?_)
   have h2 : La ++ Lb ++ (Lx ++ L2) ++ L3 = La ++ (Lb ++ ((Lx ++ L2) ++ L3)) := by simp
   rw [h2]
   refine List.Perm.append_left La ?_
   refine (List.perm_append_comm_assoc _ _ _).trans (List.Perm.append_left Lb ?_)
   rw [← List.append_assoc]
   exact pm.symm.append_right L3
  exact p2.nodup_iff.mpr nd
 ·intro a ha fa
  refine nf a ?_ fa
  simp only [List.mem_append, List.mem_cons] at ha ⊢
  rcases ha with ((h | h | h) | h) | h | h
  ·simp [h]
  ·simp [h]
  ·have := pm.mem_iff.mpr (List.mem_append_left M2 h)
   rcases List.mem_append.mp this with z | z <;> simp [z]
  ·simp [h]
  ·have := pm.mem_iff.mpr (List.mem_append_right M1 h)
   rcases List.mem_append.mp this with z | z <;> simp [z]
  ·simp [h]
 ·rw [upd_ne (nF a fa)]; exact r.g.dom a fa
end
end DD
namespace DD
open PySem PySem.Spec PyProof.Rows L2
noncomputable def evI : List DP → DSt → Option (List Int)
 | [], _ => some []
 | p :: ps, σ => (p σ).bind fun d => match d with | .int i => (evI ps σ).map fun r => i :: r | _ => none
theorem evI_snoc : ∀ {js : List DP} {p : DP} {σ : DSt} {path : List Int}, evI (js ++ [p]) σ = some path → ∃ pre i, path = pre ++ [i] ∧ evI js σ = some pre ∧ p σ = some (.int i)
 | [], p, σ, path, h => by
  simp only [List.nil_append, evI] at h
  rcases hp : p σ with _ | d
  ·rw [hp] at h; cases h
  ·rw [hp] at h
   cases d <;> first | (cases h; exact ⟨[], _, rfl, rfl, rfl⟩) | cases h
 | q :: js, p, σ, path, h => by
  simp only [List.cons_append, evI] at h
  rcases hq : q σ with _ | d
  ·rw [hq] at h; cases h
  ·rw [hq] at h
   simp only [bind_some] at h
   cases d with
   | int i =>
    simp only at h
    rcases hr : evI (js ++ [p]) σ with _ | r
    ·rw [hr] at h; cases h
    ·rw [hr] at h; cases h
     obtain ⟨pre, k, rfl, h2, h3⟩ := evI_snoc hr
     refine ⟨i :: pre, k, rfl, ?_, h3⟩
     simp only [evI, hq, bind_some, h2, map_some]
   | _ => cases h
theorem Lc.uniq {H : Hp} : ∀ {js : List Int} {v w w' : V}, Lc H v js w → Lc H v js w' → w = w' := by
 intro js
 induction js with
 | nil => intro v w w' h h'; exact h.trans h'.symm
 | cons j js ih =>
  intro v w w' q q'
  obtain ⟨a, vs, u, e, h, hu, r⟩ := q
  obtain ⟨a', vs', u', e', h', hu', r'⟩ := q'
  subst e
  cases e'
  have ev : vs = vs' := by
   rcases h with h | h <;> rcases h' with h' | h' <;> rw [h] at h' <;> cases h' <;> rfl
  subst ev
  rw [hu] at hu'
  cases hu'
  exact ih r r'
noncomputable def rP (K : PySem.W.Frag) (i : Nat) (js : List DP) : TE := fun σ H Q => ∃ F R σD v0 path w, Rel K F H σD σ R ∧ σ[i]? = some (some v0) ∧ evI js σD = some path ∧ Lc H v0 path w ∧ ∀ F' H', Grow F H F' H' → Q w H'
noncomputable def QP (X : Cx) (e : Expr) (i : Nat) (js : List DP) : Prop := PE X e (rP X.K i js)
section
variable {X : Cx} {e o a b : Expr} {es : List Expr} {p q : DP} {c c' : DE} {pos apos cpos : Pos} {i : Nat} {js : List DP}
theorem qp_v (i : Nat) {x : Str} {pos : Pos} (hN : autoParam (X.N[i]? = some x) Ax4._auto_1) (hv : autoParam (Vis X.env.scope x) Ax6._auto_1) (hd : autoParam ((x == ("__debug__" : Str)) = false) Ax1._auto_1)
  (hcd : autoParam ((x == ("__classdict__" : Str)) = false) Ax1._auto_1) : QP X (.Name x pos) i [] := PE_imp (pe_var hN hv hd hcd) fun σ H Q hq0 => by
 obtain ⟨F, R, σD, v0, path, w, r, hv0, ep, lc, k⟩ := hq0
 cases ep
 cases lc
 exact ⟨_, hv0, k F H Grow.refl⟩
theorem qp_ix (ho : QP X a i js) (hb : QB X b q) (hs : autoParam (PlainIx b) Ax7._auto_1) : QP X (.Subscript a b pos) i (js ++ [q]) := PE_imp (pe_ix ix_seq ho hb hs) fun σ H Q hq0 => by
 obtain ⟨F, R, σD, v0, path, w, r, hv0, ep, lc, k⟩ := hq0
 obtain ⟨pre, j, rfl, e1, e2⟩ := evI_snoc ep
 obtain ⟨u, l1, l2⟩ := lc.snoc
 refine ⟨F, R, σD, v0, pre, u, r, hv0, e1, l1, fun F1 H1 g1 => ?_⟩
 refine ⟨F1, R, σD, _, r.grow g1, e2, fun F2 H2 y g2 b2 => ?_⟩
 obtain ⟨ad, vs, z, rfl, hh, hz, rfl⟩ := l2.grow (g1.trans g2).k
 rcases hh with hh | hh
 ·exact .inl ⟨ad, vs, j, _, rfl, b2.int, .inl (.inl hh), hz, k F2 H2 (g1.trans g2)⟩
 ·exact .inr (.inl ⟨ad, vs, j, _, rfl, b2.int, .inl (.inl hh), hz, k F2 H2 (g1.trans g2)⟩)
noncomputable def dApp (i : Nat) (js : List DP) (p : DP) : DE := fun σ => (dget σ i).bind fun t => (evI js σ).bind fun path => (getP t path).bind fun n => match n with
 | .lst true xs => (p σ).bind fun y => match y.sc with
  | some _ => if xs.length < sizeLine then some (.non, σ.set i (some (setP t path (.lst true (xs ++ [y]))))) else none
  | none => none
 | _ => none
theorem qe_appP (ho : QP X o i js) (he : QB X e p) (hbase : autoParam (attributeBase o "append" X.env (eval o X.env) = eval o X.env) Ax4._auto_1) (hfew : autoParam (((backTo cpos (starEach [e] X.env)).all (fun x => !x.1) && (backToKw cpos (keywordEach [] X.env)).all (fun x => x.1.isSome)
   && decide (([e] : List Expr).length + ([] : List Keyword).length + (if ([] : List Keyword).isEmpty then 0 else 1) < 30)) = true) Ax4._auto_1) (hline : autoParam ((apos.endLine == cpos.line) = true) Ax4._auto_1)
  (hst : autoParam (starEach [e] X.env = (false, eval e X.env) :: starEach [] X.env) Ax4._auto_1) : QE X (.Call (.Attribute o "append" apos) [e] [] cpos) (dApp i js p) :=
 PE_imp (pe_bm PySem.F.plainAttrs_list PySem.F.slot_list_append PySem.F.type_list_append mt_append ho (pa_cons he pa_nil hst) hbase hfew hline hst rfl) fun σ H Q hq0 => by
  obtain ⟨F, R, σD, d, σD', r, ec, k⟩ := hq0
  unfold dApp at ec
  rcases h1 : dget σD i with _ | t
  ·rw [h1] at ec; cases ec
  ·rw [h1] at ec; simp only [bind_some] at ec
   rcases h2 : evI js σD with _ | path
   ·rw [h2] at ec; cases ec
   ·rw [h2] at ec; simp only [bind_some] at ec
    rcases h3 : getP t path with _ | n
    ·rw [h3] at ec; cases ec
    ·rw [h3] at ec; simp only [bind_some] at ec
     split at ec
     ·rename_i xs
      rcases h4 : p σD with _ | y
      ·rw [h4] at ec; cases ec
      ·rw [h4] at ec; simp only [bind_some] at ec
       rcases h5 : y.sc with _ | yw
       ·rw [h5] at ec; cases ec
       ·rw [h5] at ec
        simp only at ec
        split at ec
        ·rename_i hz
         cases ec
         obtain ⟨v0, hv0, r0⟩ := r.take (dget_some h1)
         obtain ⟨l0, vs0, lc0, hl0, _⟩ := Rel.listAt (S := []) r0 h3
         refine ⟨F, R, σD, v0, path, .ref l0, r, hv0, h2, lc0, fun F1 H1 g1 => ⟨.inl ⟨rfl, vs0, .inl (.inl (g1.k _ _ hl0))⟩, ?_⟩⟩
         refine ⟨F1, R, σD, y, r.grow g1, h4, fun F2 H2 u g2 b2 => ?_⟩
         have hu : u = yw := b2.sc h5
         subst hu
         have g3 := g1.trans g2
         obtain ⟨v1, hv1, r1⟩ := (r.grow g3).take (dget_some h1)
         rw [hv0] at hv1; cases hv1
         have r2 : Rel X.K F2 H2 (σD.set i none) σ ((t, v0) :: ([(y, u)] ++ R)) := (r1.scal (d := y) h5).perm (.swap _ _ _)
         obtain ⟨l, vs, lc, hl, hlen, upd'⟩ := r2.listAt h3
         have el : l0 = l := by
          have := (lc0.grow g3.k).uniq lc
          injection this
         subst el
         obtain ⟨r3, x3⟩ := upd' (xs ++ [y]) (vs ++ [u]) [] (by rw [List.zip_append hlen]; simp) (by simp [hlen])
         refine ⟨l0, vs, u, rfl, rfl, hl, by omega, ?_⟩
         have r4 := (Rel.put (R := R) r3 hv0)
         rw [List.set_set] at r4
         exact k F2 _ .non (g3.x.trans x3) (r4.scal rfl)
        ·cases ec
     ·cases ec
end
end DD
namespace DD
open PySem PySem.Spec PyProof.Rows L2
section
variable {X : Cx} {e o a b : Expr} {es : List Expr} {p q : DP} {c c' : DE} {pos apos cpos : Pos} {i : Nat} {js : List DP}
noncomputable def dAppV (i : Nat) (c : DE) : DE := fun σ => match dget σ i with
 | some (.lst _ _) => (c σ).bind fun p => match dget p.2 i with
  | some (.lst true xs) => if xs.length < sizeLine then some (.non, p.2.set i (some (.lst true (xs ++ [p.1])))) else none
  | _ => none
 | _ => none
theorem qe_appV (i : Nat) {x : Str} {npos : Pos} (he : QE X e c) (hN : autoParam (X.N[i]? = some x) Ax4._auto_1) (hv : autoParam (Vis X.env.scope x) Ax6._auto_1) (hd : autoParam ((x == ("__debug__" : Str)) = false) Ax1._auto_1)
  (hcd : autoParam ((x == ("__classdict__" : Str)) = false) Ax1._auto_1) (hbase : autoParam (attributeBase (.Name x npos) "append" X.env (eval (.Name x npos) X.env) = eval (.Name x npos) X.env) Ax4._auto_1) (hfew : autoParam (((backTo cpos (starEach [e] X.env)).all (fun x => !x.1) && (backToKw cpos (keywordEach [] X.env)).all (fun x => x.1.isSome)
   && decide (([e] : List Expr).length + ([] : List Keyword).length + (if ([] : List Keyword).isEmpty then 0 else 1) < 30)) = true) Ax4._auto_1) (hline : autoParam ((apos.endLine == cpos.line) = true) Ax4._auto_1)
  (hst : autoParam (starEach [e] X.env = (false, eval e X.env) :: starEach [] X.env) Ax4._auto_1) : QE X (.Call (.Attribute (.Name x npos) "append" apos) [e] [] cpos) (dAppV i c) :=
 PE_imp (pe_bm PySem.F.plainAttrs_list PySem.F.slot_list_append PySem.F.type_list_append mt_append (pe_var hN hv hd hcd) (pa_cons he pa_nil hst) hbase hfew hline hst rfl) fun σ H Q hq0 => by
  obtain ⟨F, R, σD, d, σD', r, ec, k⟩ := hq0
  unfold dAppV at ec
  split at ec
  ·rename_i own ys h0
   obtain ⟨v0, hv0, b0⟩ := r.get (dget_some h0)
   obtain ⟨a0, vs0, rfl, sq0, _⟩ := b0.lst
   rcases h1 : c σD with _ | ⟨y, σ1⟩
   ·rw [h1] at ec; cases ec
   ·rw [h1] at ec; simp only [bind_some] at ec
    split at ec
    ·rename_i xs h2
     split at ec
     ·rename_i hz
      cases ec
      refine ⟨_, hv0, .inl ⟨rfl, vs0, sq0⟩, F, R, σD, y, σ1, r, h1, fun F1 H1 v x1 r1 => ?_⟩
      obtain ⟨v1, hv1, r2⟩ := r1.take (dget_some h2)
      rw [hv0] at hv1; cases hv1
      obtain ⟨l, vs, lc, hl, hlen, upd'⟩ := Rel.listAt (S := [(y, v)]) (js := []) (xs := xs) r2 rfl
      cases lc
      obtain ⟨r3, x3⟩ := upd' (xs ++ [y]) (vs ++ [v]) [] (by rw [List.zip_append hlen]; simp) (by simp [hlen])
      refine ⟨_, vs, v, rfl, rfl, hl, by omega, ?_⟩
      have r4 := (Rel.put (R := R) r3 hv0)
      rw [List.set_set] at r4
      exact k F1 _ .non (x1.trans x3) (r4.scal rfl)
     ·cases ec
    ·cases ec
  ·cases ec
end
end DD
namespace DD
open PySem PySem.Spec PyProof.Rows L2
section
variable {K : PySem.W.Frag} {F F' : Addr → Prop} {H H' : Hp} {σD : DSt} {σ : St} {R S : Ro}
theorem Rel.pushL : ∀ {xs : List D} {vs : List V}, OwL K F H xs vs [] → Rel K F H σD σ R → Rel K F H σD σ (xs.zip vs ++ R)
 | [], vs, h, r => by simp only [OwL] at h; rw [h.1]; exact r
 | x :: xs, vs, h, r => by
  simp only [OwL] at h
  obtain ⟨v, ws, L1, L2, rfl, h1, h2, e⟩ := h
  obtain ⟨rfl, rfl⟩ := List.append_eq_nil_iff.mp e.symm
  exact (Rel.pushL h2 r).push h1
end
noncomputable def cutG {α : Type} (xs : List α) (lo hi : Option Int) : List α := (xs.drop (HT.sIx xs.length 0 lo)).take (HT.sIx xs.length xs.length hi - HT.sIx xs.length 0 lo)
noncomputable def evO : Option DP → DSt → Option (Option Int)
 | none, _ => some none
 | some p, σ => (p σ).bind fun d => match d with | .int i => some (some i) | _ => none
section
variable {X : Cx} {e a b : Expr} {lo hi : Option Expr} {pl ph : Option DP} {p q : DP} {c c' : DE} {pos p2 : Pos} {i : Nat}
noncomputable def dSl (c : DE) (pl ph : Option DP) : DE := fun σ => (c σ).bind fun p => match p.1 with
 | .lst _ xs => (evO pl p.2).bind fun l => (evO ph p.2).map fun h => (.lst true (cutG (D.fzL xs) l h), p.2)
 | _ => none
noncomputable def dCat (c c' : DE) : DE := fun σ => (c σ).bind fun p => (c' p.2).bind fun q => match p.1, q.1 with
 | .lst true xs, .lst true ys => if xs.length + ys.length ≤ sizeLine then some (.lst true (xs ++ ys), q.2) else none
 | _, _ => none
theorem qe_cat (ha : QE X a c) (hb : QE X b c') : QE X (.BinOp a .Add b pos) (dCat c c') := PE_imp (pe_op op_cat ha hb) fun σ H Q hq0 => by
 obtain ⟨F, R, σD, d, σD', r, ec, k⟩ := hq0
 unfold dCat at ec
 rcases h1 : c σD with _ | ⟨x, σ1⟩
 ·rw [h1] at ec; cases ec
 ·rw [h1] at ec; simp only [bind_some] at ec
  rcases h2 : c' σ1 with _ | ⟨y, σ2⟩
  ·rw [h2] at ec; cases ec
  ·rw [h2] at ec; simp only [bind_some] at ec
   split at ec
   ·rename_i xs ys
    split at ec
    ·rename_i hz
     cases ec
     refine ⟨F, R, σD, _, σ1, r, h1, fun F1 H1 v x1 r1 => ?_⟩
     refine ⟨F1, _, σ1, _, _, r1, h2, fun F2 H2 u x2 r2 => ?_⟩
     obtain ⟨l2, ws, rfl, hw, hlw, r3⟩ := r2.openL
     have r3' := (r3.pop).perm (List.perm_middle (a := ((.lst true xs : D), v)) (l₁ := ys.zip ws) (l₂ := R))
     obtain ⟨l1, us, rfl, hu, hlu, r4⟩ := r3'.openL
     refine ⟨l1, l2, us, ws, rfl, rfl, hu, hw, by rw [← hlu, ← hlw]; exact hz, fun p hp => ?_⟩
     have r5 : Rel X.K F2 H2 σD' σ ((xs ++ ys).zip (us ++ ws) ++ R) := by
      rw [List.zip_append hlu, List.append_assoc]; exact r4.pop
     obtain ⟨r6, x6⟩ := r5.layL (by simp [hlu, hlw]) hp
     exact k F2 _ _ ((x1.trans x2).trans x6) r6
    ·cases ec
   ·cases ec
noncomputable def allSc (xs : List D) : Bool := xs.all fun d => d.sc.isSome
theorem OwL.sc {K : PySem.W.Frag} {F : Addr → Prop} {H : Hp} : ∀ {xs : List D} {vs : List V} {L : List Addr}, OwL K F H xs vs L → allSc xs = true → L = [] ∧ ∀ F' H', OwL K F' H' xs vs []
 | [], vs, L, h, _ => by simp only [OwL] at h ⊢; exact ⟨h.2, fun _ _ => ⟨h.1, trivial⟩⟩
 | x :: xs, vs, L, h, s => by
  simp only [OwL] at h
  obtain ⟨v, ws, L1, L2, rfl, h1, h2, rfl⟩ := h
  simp only [allSc, List.all_cons, Bool.and_eq_true] at s
  obtain ⟨w, hw⟩ := Option.isSome_iff_exists.mp s.1
  obtain ⟨rfl, rfl⟩ := h1.sc hw
  obtain ⟨rfl, h3⟩ := OwL.sc h2 s.2
  exact ⟨rfl, fun F' H' => by simp only [OwL]; exact ⟨v, ws, [], [], rfl, Ow.of_sc hw, h3 F' H', rfl⟩⟩
theorem OwL.app {K : PySem.W.Frag} {F : Addr → Prop} {H : Hp} : ∀ {xs ys : List D} {vs ws : List V}, OwL K F H xs vs [] → OwL K F H ys ws [] → OwL K F H (xs ++ ys) (vs ++ ws) []
 | [], ys, vs, ws, h, h' => by simp only [OwL] at h; rw [h.1]; exact h'
 | x :: xs, ys, vs, ws, h, h' => by
  simp only [OwL] at h
  obtain ⟨v, us, L1, L2, rfl, h1, h2, e⟩ := h
  obtain ⟨rfl, rfl⟩ := List.append_eq_nil_iff.mp e.symm
  simp only [List.cons_append, OwL]
  exact ⟨v, us ++ ws, [], [], rfl, h1, OwL.app h2 h', rfl⟩
noncomputable def gNeg : D → Option D
 | .int i => some (.int (-i))
 | _ => none
noncomputable def pNeg (p : DP) : DP := fun σ => (p σ).bind gNeg
theorem gNeg_some {x d : D} (h : gNeg x = some d) : ∃ i, x = .int i ∧ d = .int (-i) := by
 cases x <;> first | (cases h; exact ⟨_, rfl, rfl⟩) | cases h
theorem qb_neg (ha : QB X a p) : QB X (.UnaryOp .USub a pos) (pNeg p) := PE_imp (pe_un un_neg ha) fun σ H Q hq0 => by
 obtain ⟨F, R, σD, d, r, ec, k⟩ := hq0
 unfold pNeg at ec
 rcases h1 : p σD with _ | x
 ·rw [h1] at ec; cases ec
 ·rw [h1] at ec; simp only [bind_some] at ec
  obtain ⟨i, rfl, rfl⟩ := gNeg_some ec
  exact ⟨F, R, σD, _, r, h1, fun F1 H1 v g1 b1 => ⟨i, b1.int, k F1 H1 _ g1 ⟨[], Ow.of_sc rfl⟩⟩⟩
variable {rest : List Expr}
end
end DD
namespace L2
open PySem PySem.Spec PyProof.Rows
noncomputable def Itz (K : PySem.W.Frag) (a b : Addr) : It :=
 ⟨fun i H => ∃ xs ys x y, SqL K H a xs ∧ SqL K H b ys ∧ xs[i]? = some x ∧ ys[i]? = some y,
  fun i H x H' => ∃ p u w, (∀ xs, SqL K H a xs → xs[i]? = some u) ∧ (∀ ys, SqL K H b ys → ys[i]? = some w) ∧ H p = none ∧ H' = upd H p (.tup [u, w]) ∧ x = .ref p,
  fun i H => ∃ xs ys, SqL K H a xs ∧ SqL K H b ys ∧ (xs.length ≤ i ∨ ys.length ≤ i)⟩
theorem Inv.turnT {X : Cx} {pins : List (Addr × Obj)} {σ : St} {H : Hp} {s : Shared} {h' : Heap} {ch : List Addr} {u w : V} {x y : Value} (I : Inv X pins σ H s) (hf : ∀ b ∈ ch, FpOk X pins H b) (ru : RelV u x) (rw' : RelV w y)
  (hk : ∀ c o, c ∉ ch → s.heap.get? c = some o → h'.get? c = some o) (hT : IsPair h' s.heap.objs.size x y) (hth : ∀ b ∈ ch, ∃ o, h'.get? b = some o) : Inv X pins σ (upd H s.heap.objs.size (.tup [u, w])) { s with heap := h' } := by
 have hfr : H s.heap.objs.size = none := I.fresh
 have nch : ∀ b o, H b = some o → b ∉ ch := fun b o e hb => by rw [(hf b hb).1] at e; cases e
 have ne : ∀ b o, s.heap.get? b = some o → b ≠ s.heap.objs.size := fun b o e => Nat.ne_of_lt (Heap.lt_size e)
 refine I.step (g' := s.gens) (d' := s.drawn) (t' := s.toks) (ch := ch) (fun b hb => ⟨(hf b hb).2.2.2.1, (hf b hb).2.1, (hf b hb).2.2.2.2.1, (hf b hb).2.2.2.2.2⟩) (fun b o _ _ hc e _ => hk b o hc e)
  (fun b o _ _ hc e _ => ⟨o.slots, hk b o hc e⟩) (fun b o _ e n => by rw [upd_ne (ne b o e)]; exact n) (fun b o hc e => ⟨o, hk b o hc e⟩) (fun b xs e => by rw [upd_ne (ne_of_none e hfr)]; exact e)
  (fun b o v e => by rw [upd_ne (ne_of_none e hfr)]; exact e) (fun b ps e => ⟨#[], by rw [upd_ne (ne_of_none e hfr), e]; simp⟩) (fun m hm => ?_) (fun b o e => ?_) I.bare
 ·obtain ⟨o, es, ep, ho, r⟩ := hm
  exact ⟨o, es, ep, hk _ o (fun z => (hf _ z).2.1 rfl) ho, r⟩
 ·by_cases hb : b = s.heap.objs.size
  ·subst hb
   rw [upd_same] at e
   cases e
   refine ⟨by show 2 ≤ sizeLine; decide, [x, y], .cons ru (.cons rw' .nil), ⟨_, hT, rfl, _, rfl⟩⟩
  ·rw [upd_ne hb] at e
   refine (I.hok b o e).stay (fun c v hc q => hk c v ?_ q) (fun c q => by rw [upd_ne (ne_of_none q hfr)]; exact q) fun c xs q => by rw [upd_ne (ne_of_none q hfr)]; exact q
   rcases hc with rfl | hc
   ·exact nch _ _ e
   ·exact nch _ _ hc
theorem Inv.turnN {X : Cx} {pins : List (Addr × Obj)} {σ : St} {H : Hp} {s : Shared} {h' : Heap} {ch : List Addr} (I : Inv X pins σ H s) (hf : ∀ b ∈ ch, FpOk X pins H b)
  (hk : ∀ c o, c ∉ ch → s.heap.get? c = some o → h'.get? c = some o) : Inv X pins σ H { s with heap := h' } := by
 have nch : ∀ b o, H b = some o → b ∉ ch := fun b o e hb => by rw [(hf b hb).1] at e; cases e
 refine I.step (g' := s.gens) (d' := s.drawn) (t' := s.toks) (ch := ch) (fun b hb => ⟨(hf b hb).2.2.2.1, (hf b hb).2.1, (hf b hb).2.2.2.2.1, (hf b hb).2.2.2.2.2⟩) (fun b o _ _ hc e _ => hk b o hc e)
  (fun b o _ _ hc e _ => ⟨o.slots, hk b o hc e⟩) (fun b o _ e n => n) (fun b o hc e => ⟨o, hk b o hc e⟩) (fun b xs e => e)
  (fun b o v e => e) (fun b ps e => ⟨#[], by rw [e]; simp⟩) (fun m hm => ?_) (fun b o e => ?_) I.bare
 ·obtain ⟨o, es, ep, ho, r⟩ := hm
  exact ⟨o, es, ep, hk _ o (fun z => (hf _ z).2.1 rfl) ho, r⟩
 ·refine (I.hok b o e).stay (fun c v hc q => hk c v ?_ q) (fun c q => q) fun c xs q => q
  rcases hc with rfl | hc
  ·exact nch _ _ e
  ·exact nch _ _ hc
theorem list_tracked {X : Cx} {pins : List (Addr × Obj)} {σ : St} {H : Hp} {s : Shared} {a b : Addr} {xs : List V} (I : Inv X pins σ H s) (h : SqL X.K H a xs) (hb : FpOk X pins H b) (hob : ∃ o, s.heap.get? b = some o ∧ o.cls ≠ .type "list") : a ≠ b := by
 rintro rfl
 obtain ⟨its, r, ⟨o, n, e, c, _⟩, _⟩ := I.list h
 obtain ⟨o', e', c'⟩ := hob
 rw [e] at e'; cases e'
 exact c' c
theorem turn_zip {P : Program} {w : World} {K : PySem.W.Frag} {elts : List Expr} {x1 : Nat} {tpos : Pos} (a b z TI TO i1 i2 : Addr) (D1 : TI ≠ z) (D2 : TO ≠ z) (D3 : i1 ≠ z) (D4 : i2 ≠ z) (D5 : TI ≠ TO) (D6 : TI ≠ i1) (D7 : TI ≠ i2) (D8 : TO ≠ i1) (D9 : TO ≠ i2) (D10 : i1 ≠ i2) :
  Turn P w K (.Tuple elts x1 tpos) (Itz K a b) [z, TI, TO, i1, i2] z (fun i h => IsZip h z TI TO .none ∧ IsPair h TI (.ref i1) (.ref i2) ∧ (∃ u v, IsPair h TO u v) ∧ h.IsListIter i1 a i ∧ h.IsListIter i2 b i) where
 mem := by simp
 obj := fun i h hq0 c hc => by
  obtain ⟨hz, hTI, ⟨u, v, hTO⟩, ⟨o1, e1, c1, d1⟩, ⟨o2, e2, c2, d2⟩⟩ := hq0
  simp only [List.mem_cons, List.not_mem_nil, or_false] at hc
  rcases hc with rfl | rfl | rfl | rfl | rfl
  ·exact ⟨_, hz, fun v z => nomatch z⟩
  ·exact ⟨_, hTI, fun v z => nomatch z⟩
  ·exact ⟨_, hTO, fun v z => nomatch z⟩
  ·exact ⟨_, e1, fun v z => by rw [d1] at z; cases z⟩
  ·exact ⟨_, e2, fun v z => by rw [d2] at z; cases z⟩
 keep := fun i h h' ⟨hz, hTI, ⟨u, v, hTO⟩, h1, h2⟩ k => ⟨k z (by simp) _ hz, k TI (by simp) _ hTI, ⟨u, v, k TO (by simp) _ hTO⟩, h1.at fun o e => k i1 (by simp) o e, h2.at fun o e => k i2 (by simp) o e⟩
 item := by
  rintro X hP hw hK hc i pins s σ H E I hf ⟨hz, hTI, ⟨ua, ub, hTO⟩, h1, h2⟩ ⟨xs, ys, x, y, hq1, hq2, hx, hy⟩
  subst hP hw hK
  obtain ⟨its1, rv1, p1, _⟩ := I.list hq1
  obtain ⟨its2, rv2, p2, _⟩ := I.list hq2
  obtain ⟨u1, hu1, ru1⟩ := rv1.get hx
  obtain ⟨u2, hu2, ru2⟩ := rv2.get hy
  have ob : ∀ c ∈ [z, TO, i1, i2], ∃ o, s.heap.get? c = some o ∧ o.cls ≠ .type "list" := fun c hc => by
   obtain ⟨o1, e1, c1, d1⟩ := id h1
   obtain ⟨o2, e2, c2, d2⟩ := id h2
   simp only [List.mem_cons, List.not_mem_nil, or_false] at hc
   rcases hc with rfl | rfl | rfl | rfl
   ·exact ⟨_, hz, by simp⟩
   ·exact ⟨_, hTO, by simp⟩
   ·exact ⟨_, e1, by rw [c1]; simp⟩
   ·exact ⟨_, e2, by rw [c2]; simp⟩
  have na : ∀ c ∈ [z, TO, i1, i2], a ≠ c := fun c hc => list_tracked I hq1 (hf c (by simp at hc ⊢; rcases hc with h | h | h | h <;> simp [h])) (ob c hc)
  have nb : ∀ c ∈ [z, TO, i1, i2], b ≠ c := fun c hc => list_tracked I hq2 (hf c (by simp at hc ⊢; rcases hc with h | h | h | h <;> simp [h])) (ob c hc)
  have D : ZipApart z TI TO i1 i2 a b := ⟨D1, D2, D3, D4, D5, D6, D7, D8, D9, D10, na z (by simp), na TO (by simp), na i1 (by simp), na i2 (by simp), nb z (by simp), nb TO (by simp), nb i1 (by simp), nb i2 (by simp)⟩
  refine wpAny_pyNext_zip_item D hz hTI hTO h1 h2 p1.isList p2.isList (x := u1) (y := u2) (by simpa using hu1) (by simpa using hu2) fun h' a1 a2 a3 a4 a5 a6 hk => ?_
  have hf4 : ∀ c ∈ [z, TO, i1, i2], FpOk X pins H c := fun c hc => hf c (by simp at hc ⊢; rcases hc with h | h | h | h <;> simp [h])
  have hk' : ∀ c o, c ∉ [z, TO, i1, i2] → s.heap.get? c = some o → h'.get? c = some o := fun c o hc e => hk c o (fun q => hc (by simp [q])) (fun q => hc (by simp [q])) (fun q => hc (by simp [q])) (fun q => hc (by simp [q])) e
  have I1 : Inv X pins σ (upd H s.heap.objs.size (.tup [x, y])) { s with heap := h' } := I.turnT hf4 ru1 ru2 hk' a5 (fun c hc => by
   obtain ⟨o1, e1, _⟩ := id a3
   obtain ⟨o2, e2, _⟩ := id a4
   simp only [List.mem_cons, List.not_mem_nil, or_false] at hc
   rcases hc with rfl | rfl | rfl | rfl
   ·exact ⟨_, a1⟩
   ·exact ⟨_, a2⟩
   ·exact ⟨_, e1⟩
   ·exact ⟨_, e2⟩)
  have hfr : H s.heap.objs.size = none := I.fresh
  refine ⟨_, rfl, wpAny_letOwnedTupleGo_zip (s := { s with heap := h' }) a1 fun h'' z1 sb => ?_⟩
  have hf5 : ∀ c ∈ [z, TI, TO, i1, i2], (upd H s.heap.objs.size (.tup [x, y])) c = none := fun c hc => by
   have lt : c < s.heap.objs.size := by
    obtain ⟨o1, e1, _⟩ := id h1
    obtain ⟨o2, e2, _⟩ := id h2
    simp only [List.mem_cons, List.not_mem_nil, or_false] at hc
    rcases hc with rfl | rfl | rfl | rfl | rfl
    ·exact Heap.lt_size hz
    ·exact Heap.lt_size hTI
    ·exact Heap.lt_size hTO
    ·exact Heap.lt_size e1
    ·exact Heap.lt_size e2
   rw [upd_ne (Nat.ne_of_lt lt)]; exact (hf c hc).1
  have I2 : Inv X pins σ (upd H s.heap.objs.size (.tup [x, y])) { s with heap := h'' } := Inv.turnN (s := { s with heap := h' }) (ch := [z]) I1 (fun c hc => by
   have : c = z := by simpa using hc
   subst this
   exact ⟨hf5 c (by simp), (hf c (by simp)).2⟩) (fun c o hc e => (sb.2 c (fun q => hc (by simp [q]))).trans e)
  refine ⟨.ref s.heap.objs.size, _, I2, rfl, ⟨_, x, y, fun zs hzs => by rw [I.list_inj hzs hq1]; exact hx, fun zs hzs => by rw [I.list_inj hzs hq2]; exact hy, hfr, rfl, rfl⟩, ⟨z1, ?_, ⟨u1, u2, ?_⟩, ?_, ?_⟩, hf5⟩
  ·exact (sb.2 TI D1).trans (hk' TI _ (by simp [D1, D5, D6, D7]) hTI)
  ·exact (sb.2 TO D2).trans a2
  ·exact a3.at fun o e => (sb.2 i1 D3).trans e
  ·exact a4.at fun o e => (sb.2 i2 D4).trans e
 done := by
  rintro X hP hw hK hc i pins s σ H E I hf ⟨hz, hTI, ⟨ua, ub, hTO⟩, h1, h2⟩ ⟨xs, ys, hq1, hq2, hend⟩
  subst hP hw hK
  obtain ⟨its1, rv1, p1, _⟩ := I.list hq1
  obtain ⟨its2, rv2, p2, _⟩ := I.list hq2
  have ob : ∀ c ∈ [z, TO, i1, i2], ∃ o, s.heap.get? c = some o ∧ o.cls ≠ .type "list" := fun c hc => by
   obtain ⟨o1, e1, c1, d1⟩ := id h1
   obtain ⟨o2, e2, c2, d2⟩ := id h2
   simp only [List.mem_cons, List.not_mem_nil, or_false] at hc
   rcases hc with rfl | rfl | rfl | rfl
   ·exact ⟨_, hz, by simp⟩
   ·exact ⟨_, hTO, by simp⟩
   ·exact ⟨_, e1, by rw [c1]; simp⟩
   ·exact ⟨_, e2, by rw [c2]; simp⟩
  have hf4 : ∀ c ∈ [z, TO, i1, i2], FpOk X pins H c := fun c hc => hf c (by simp at hc ⊢; rcases hc with h | h | h | h <;> simp [h])
  have na : ∀ c ∈ [z, TO, i1, i2], a ≠ c := fun c hc => list_tracked I hq1 (hf4 c hc) (ob c hc)
  have nb : ∀ c ∈ [z, TO, i1, i2], b ≠ c := fun c hc => list_tracked I hq2 (hf4 c hc) (ob c hc)
  have D : ZipApart z TI TO i1 i2 a b := ⟨D1, D2, D3, D4, D5, D6, D7, D8, D9, D10, na z (by simp), na TO (by simp), na i1 (by simp), na i2 (by simp), nb z (by simp), nb TO (by simp), nb i1 (by simp), nb i2 (by simp)⟩
  have hl1 := rv1.length
  have hl2 := rv2.length
  refine wpAny_pyNext_zip_end (I.ok.hd hc) D hz hTI hTO h1 h2 p1.isList p2.isList (by rcases hend with h | h; (left; simp; omega); (right; simp; omega)) fun h' hk => ⟨rfl, ?_⟩
  exact I.turnN hf4 fun c o hc e => hk c o (fun q => hc (by simp [q])) (fun q => hc (by simp [q])) (fun q => hc (by simp [q])) (fun q => hc (by simp [q])) e
 self := fun _ _ _ _ _ ⟨hz, _⟩ h => wpAny_pyIter_zip hz h
end L2
namespace L2
open PySem PySem.Spec PyProof.Rows
noncomputable def iZip (K : PySem.W.Frag) (ta : TA) : TI := fun σ H R => ta σ H fun vs H1 => ∃ a b, vs = [.ref a, .ref b] ∧ (∃ xs, SqL K H1 a xs) ∧ (∃ ys, SqL K H1 b ys) ∧ R (Itz K a b) H1
theorem pi_zip {X : Cx} {elts : List Expr} {x1 : Nat} {tpos : Pos} {a b : Expr} {ta : TA} {p pos : Pos} (hg : Gl X "zip") (hm : X.mg "zip" = none) (ha : PA X [a, b] ta) (hs : autoParam (starEach [a, b] X.env = [(false, eval a X.env), (false, eval b X.env)]) Ax4._auto_1) (hs2 : autoParam (starEach [b] X.env = [(false, eval b X.env)]) Ax4._auto_1) :
  PI X (.Tuple elts x1 tpos) (.Call (.Name "zip" p) [a, b] [] pos) (iZip X.K ta) := by
 intro pins s σ H R I h
 refine Call_ (ld_blt I hg hm boot_zip (PyProof.Rows.callWith_type1 (thn (ha pos pins s σ H _ I h) fun us s1 ⟨vs, H1, I1, r1, q1⟩ => ?_) (by rw [hs, hs2]) (by rw [hs2]; rfl)))
 obtain ⟨l1, l2, e, ⟨xs, hq1⟩, ⟨ys, hq2⟩, q⟩ := q1
 subst e
 cases r1 with
 | cons r rr =>
  cases rr with
  | cons r' rr =>
   cases rr
   cases r
   cases r'
   obtain ⟨its1, rv1, p1, _⟩ := I1.list hq1
   obtain ⟨its2, rv2, p2, _⟩ := I1.list hq2
   refine call_zip_2 p1.isList p2.isList fun h' hz hTI hTO h1 h2 hsz hk => ?_
   have I2 : Inv X pins σ H1 { s1 with heap := h' } := I1.kept (t' := s1.toks) hk
   refine wpAny_pyIter_zip (s := { s1 with heap := h' }) hz ?_
   have lt : ∀ k : Nat, s1.heap.objs.size ≤ s1.heap.objs.size + k := fun k => Nat.le_add_right _ _
   refine ⟨_, [s1.heap.objs.size + 4, s1.heap.objs.size + 2, s1.heap.objs.size + 3, s1.heap.objs.size, s1.heap.objs.size + 1], _, _, H1, rfl, I2,
    turn_zip l1 l2 (s1.heap.objs.size + 4) (s1.heap.objs.size + 2) (s1.heap.objs.size + 3) s1.heap.objs.size (s1.heap.objs.size + 1) ?_ ?_ ?_ ?_ ?_ ?_ ?_ ?_ ?_ ?_, ⟨hz, hTI, ⟨_, _, hTO⟩, h1, h2⟩, fun c hc => ?_, q⟩
   all_goals first
    | (show _ + _ ≠ _ + _; intro z; exact absurd (Nat.add_left_cancel z) (by decide))
    | (show _ ≠ _ + _; intro z; exact absurd z (by have := Nat.lt_add_of_pos_right (n := s1.heap.objs.size) (k := 4) (by decide); have := Nat.lt_add_of_pos_right (n := s1.heap.objs.size) (k := 1) (by decide); exact Nat.ne_of_lt (by assumption)))
    | (show _ + _ ≠ _; exact Nat.ne_of_gt (Nat.lt_add_of_pos_right (by decide)))
    | skip
   have hle : s1.heap.objs.size ≤ c := by
    simp only [List.mem_cons, List.not_mem_nil, or_false] at hc
    rcases hc with rfl | rfl | rfl | rfl | rfl
    ·exact lt 4
    ·exact lt 2
    ·exact lt 3
    ·exact Nat.le_refl _
    ·exact lt 1
   obtain ⟨f0, f1, f2, f3, f4, f5⟩ := I1.fpOk hle (I1.hok.fresh hle)
   exact ⟨f0, f1, f2, f3, f4, f5⟩
end L2
namespace DD
open PySem PySem.Spec PyProof.Rows L2
noncomputable def iZipD (c c' : DE) : DI := fun σ => (c σ).bind fun p => (c' p.2).bind fun q => match p.1, q.1 with
 | .lst _ xs, .lst _ ys => some (((D.fzL xs).zip (D.fzL ys)).map fun z => .tup [z.1, z.2], q.2)
 | _, _ => none
theorem itd_zip {K : PySem.W.Frag} {F : Addr → Prop} {H : Hp} {xs ys : List D} {a b : Addr} {vs ws : List V} (fl : FL K F H a vs) (ol : OwL K F H xs vs []) (fl' : FL K F H b ws) (ol' : OwL K F H ys ws []) :
  ItD K (Itz K a b) ((xs.zip ys).map fun z => .tup [z.1, z.2]) F H where
 item := fun i d F1 H1 x1 dm e => by
  rw [List.getElem?_map] at e
  rcases hz : (xs.zip ys)[i]? with _ | ⟨x, y⟩
  ·rw [hz] at e; cases e
  ·rw [hz] at e; cases e
   obtain ⟨hx, hy⟩ := List.getElem?_zip_eq_some.mp hz
   obtain ⟨u, La, Lx, Lb, e1, eL, o1, _⟩ := ol.kid hx
   have eLx : Lx = [] := (List.append_eq_nil_iff.mp (List.append_eq_nil_iff.mp eL.symm).1).2
   subst eLx
   obtain ⟨w, La', Lx', Lb', e2, eL', o2, _⟩ := ol'.kid hy
   have eLx' : Lx' = [] := (List.append_eq_nil_iff.mp (List.append_eq_nil_iff.mp eL'.symm).1).2
   subst eLx'
   refine ⟨⟨vs, ws, u, w, (fl.ext x1).sq, (fl'.ext x1).sq, e1, e2⟩, fun v H2 ⟨p, u', w', h1, h2, hp, hH, hv⟩ => ?_⟩
   subst hH hv
   have h1' := h1 vs (fl.ext x1).sq
   rw [e1] at h1'; cases h1'
   have h2' := h2 ws (fl'.ext x1).sq
   rw [e2] at h2'; cases h2'
   have nF : ∀ c, F1 c → c ≠ p := fun c fc z => by obtain ⟨o, h⟩ := dm c fc; rw [z, hp] at h; cases h
   have gr : Grow F1 H1 (fun c => F1 c ∨ c = p) (upd H1 p (.tup [u, w])) := by
    refine ⟨fun c fc => ⟨.inl fc, upd_ne (nF c fc)⟩, fun c o e => by rw [upd_ne (ne_of_none e hp)]; exact e, fun c fc => ?_, fun _ c fc => ?_⟩
    ·rcases fc with fc | fc
     ·exact .inl fc
     ·exact .inr (fc ▸ hp)
    ·rcases fc with fc | fc
     ·rw [upd_ne (nF c fc)]; exact dm c fc
     ·subst fc; exact ⟨_, upd_same⟩
   refine ⟨_, gr, ?_⟩
   simp only [Ow, OwL]
   refine ⟨p, [u, w], rfl, .inl ⟨.inr rfl, upd_same⟩, u, [w], [], [], rfl, (o1.mono x1 (fun a ha => by cases ha)).mono gr.x (fun a ha => by cases ha), ⟨w, [], [], [], rfl, (o2.mono x1 (fun a ha => by cases ha)).mono gr.x (fun a ha => by cases ha), ⟨rfl, rfl⟩, rfl⟩, rfl⟩
 done := fun F1 H1 x1 => ⟨vs, ws, (fl.ext x1).sq, (fl'.ext x1).sq, by
  have h1 := ol.length
  have h2 := ol'.length
  simp only [List.length_map, List.length_zip]
  omega⟩
section
variable {X : Cx} {a b o e : Expr} {c c' : DE} {p p1 pos1 : Pos} {elts : List Expr} {x1 : Nat} {tpos pos : Pos}
theorem qi_zip (hgl : Gl X "zip") (hm : X.mg "zip" = none) (ha : QE X a c) (hb : QE X b c') (hs : autoParam (starEach [a, b] X.env = [(false, eval a X.env), (false, eval b X.env)]) Ax4._auto_1) (hs2 : autoParam (starEach [b] X.env = [(false, eval b X.env)]) Ax4._auto_1) :
  QI X (.Tuple elts x1 tpos) (.Call (.Name "zip" p1) [a, b] [] pos1) (iZipD c c') := PI_imp (pi_zip hgl hm (pa_cons ha (pa_cons hb pa_nil hs2) (by rw [hs, hs2])) hs hs2) fun σ H R hq0 => by
 obtain ⟨F, Ro, σD, xs, σD', r, ec, k⟩ := hq0
 unfold iZipD at ec
 rcases h1 : c σD with _ | ⟨x, σ1⟩
 ·rw [h1] at ec; cases ec
 ·rw [h1] at ec; simp only [bind_some] at ec
  rcases h2 : c' σ1 with _ | ⟨y, σ2⟩
  ·rw [h2] at ec; cases ec
  ·rw [h2] at ec; simp only [bind_some] at ec
   split at ec
   ·cases ec
    refine ⟨F, Ro, σD, _, σ1, r, h1, fun F1 H1 v x1 r1 => ?_⟩
    refine ⟨F1, _, σ1, _, _, r1, h2, fun F2 H2 u x2 r2 => ?_⟩
    obtain ⟨F3, x3, r3, o3⟩ := r2.freeze
    obtain ⟨F4, x4, r4, o4⟩ := (r3.pop).freeze
    have o3' := o3.mono x4 (fun a ha => by cases ha)
    simp only [D.fz, Ow] at o3' o4
    obtain ⟨a1, vs, rfl, fl, ol, _⟩ := o4
    obtain ⟨a2, ws, rfl, fl', ol', _⟩ := o3'
    exact ⟨a1, a2, rfl, ⟨vs, fl.sq⟩, ⟨ws, fl'.sq⟩, k F4 H2 _ ((x1.trans x2).trans (x3.trans x4)) r4.pop (itd_zip fl ol fl' ol')⟩
   ·cases ec
theorem zip_get {xs : List D} {vs : List V} {j : Nat} {x : D} {w : V} (h1 : xs[j]? = some x) (h2 : vs[j]? = some w) : (x, w) ∈ xs.zip vs := by
 have : (xs.zip vs)[j]? = some (x, w) := List.getElem?_zip_eq_some.mpr ⟨h1, h2⟩
 exact List.mem_of_getElem? this
theorem Rel.pick {K : PySem.W.Frag} {F : Addr → Prop} {H : Hp} {σD : DSt} {σ : St} {R S : Ro} {x : D} {w : V} (r : Rel K F H σD σ (S ++ R)) (h : (x, w) ∈ S) : Rel K F H σD σ ((x, w) :: R) := by
 obtain ⟨A, B, rfl⟩ := List.append_of_mem h
 have r1 : Rel K F H σD σ ((A ++ B) ++ ((x, w) :: R)) := r.perm (by
  have h1 : A ++ (x, w) :: B ++ R = A ++ ((x, w) :: (B ++ R)) := by simp
  rw [h1, List.append_assoc]
  exact (List.perm_middle.symm).append_left A)
 exact r1.popN
theorem qe_ix (ha : QE X a c) (hb : QE X b c') (hs : autoParam (PlainIx b) Ax7._auto_1) : QE X (.Subscript a b pos) (dIx c c') := PE_imp (pe_ix ix_seq ha hb hs) fun σ H Q hq0 => by
 obtain ⟨F, R, σD, d, σD', r, ec, k⟩ := hq0
 unfold dIx at ec
 rcases h1 : c σD with _ | ⟨x, σ1⟩
 ·rw [h1] at ec; cases ec
 ·rw [h1] at ec; simp only [bind_some] at ec
  rcases h2 : c' σ1 with _ | ⟨y, σ2⟩
  ·rw [h2] at ec; cases ec
  ·rw [h2] at ec; simp only [bind_some] at ec
   obtain ⟨z, e1, e2⟩ := map_pair ec
   cases e2
   refine ⟨F, R, σD, x, σ1, r, h1, fun F1 H1 v x1 r1 => ?_⟩
   refine ⟨F1, _, σ1, y, _, r1, h2, fun F2 H2 u x2 r2 => ?_⟩
   have bu := r2.bor (d := y) (v := u) (by simp)
   have r3 := r2.pop
   unfold ixD at e1
   split at e1
   ·rename_i own xs i
    obtain ⟨j, hj, hx⟩ := atI_ix e1
    cases own
    ·obtain ⟨L, ⟨L1, L2, o1, h12, _⟩, _, _⟩ := r3.front.own
     simp only [Ow] at o1
     obtain ⟨a1, vs, rfl, fl, ol, _⟩ := o1
     obtain ⟨w, La, Lx, Lb, ew, eL, ox, _⟩ := ol.kid hx
     have eLx : Lx = [] := (List.append_eq_nil_iff.mp (List.append_eq_nil_iff.mp eL.symm).1).2
     subst eLx
     refine .inl ⟨a1, vs, i, w, rfl, bu.int, fl.sq, ?_, k F2 H2 w (x1.trans x2) (r3.pop.push ox)⟩
     unfold atI; rw [ol.length, hj]; exact ew
    ·obtain ⟨a1, vs, rfl, hh, hl, r4⟩ := r3.openL
     have hjl : j < vs.length := by rw [← hl]; exact (List.getElem?_eq_some_iff.mp hx).1
     have ew := List.getElem?_eq_getElem hjl
     refine .inl ⟨a1, vs, i, vs[j], rfl, bu.int, .inl (.inl hh), ?_, k F2 H2 _ (x1.trans x2) (r4.pop.pick (zip_get hx ew))⟩
     unfold atI; rw [← hl, hj]; exact ew
   ·rename_i xs i
    obtain ⟨j, hj, hx⟩ := atI_ix e1
    obtain ⟨a1, vs, rfl, ft, hl, r4⟩ := r3.openT
    have hjl : j < vs.length := by rw [← hl]; exact (List.getElem?_eq_some_iff.mp hx).1
    have ew := List.getElem?_eq_getElem hjl
    refine .inr (.inl ⟨a1, vs, i, vs[j], rfl, bu.int, ft.sq, ?_, k F2 H2 _ (x1.trans x2) (r4.pick (zip_get hx ew))⟩)
    unfold atI; rw [← hl, hj]; exact ew
   ·split at e1
    ·rename_i z2 i hz
     rcases h : atI z2.cps.toList i with _ | ch
     ·rw [h] at e1; cases e1
     ·rw [h] at e1; cases e1
      exact .inr (.inr ⟨z2, i, ch, (r3.bor (by simp)).str, bu.int, hz, h, k F2 H2 _ (x1.trans x2) (r3.pop.scal rfl)⟩)
    ·cases e1
   ·cases e1
end
end DD
namespace L2
open PySem PySem.Spec PyProof.Rows
end L2
namespace DD
open PySem PySem.Spec PyProof.Rows L2
section
variable {X : Cx} {o a e tg : Expr} {q p : DP} {c : DE} {g : D → D → Option D} {i : Nat} {js : List DP} {pos tpos : Pos} {op : Operator}
end
section
variable {X : Cx} {tg : Expr} {g : DG} {s : DS} {pos : Pos} {W W' : List Nat} {body : List Stmt}
end
end DD
namespace DD
open PySem PySem.Spec PyProof.Rows L2
noncomputable abbrev gAdd : D → D → Option D := gI0 fun i j => i + j
noncomputable abbrev gSub : D → D → Option D := gI0 fun i j => i - j
noncomputable abbrev gAnd : D → D → Option D := gI0 Builtin.bitAnd
noncomputable abbrev gXor : D → D → Option D := gI0 Builtin.bitXor
noncomputable abbrev gMod : D → D → Option D := gI (fun _ j => decide (0 < j)) fun i j => i % j
noncomputable def fdvC (_ j : Int) : Bool := decide (0 < j ∧ j.natAbs.log2 < 9000)
noncomputable abbrev gFdv : D → D → Option D := gI fdvC fun i j => i / j
theorem o_fdv {X : Cx} : OpS X (binaryOp .FloorDiv) gFdv := opS_I (C := fun _ j => 0 < j ∧ j.natAbs.log2 < 9000) (opI fun i j _ _ _ _ _ hc q => by
 have h1 : (0 : Int) < j := hc.1
 exact floordiv_int (by omega) (by rw [Int.fdiv_eq_ediv_of_nonneg i (by omega)]; exact q) (.inl (PyProof.noPylong_of_log2 hc.2))) fun i j h => by simpa [fdvC] using h
noncomputable abbrev gPow : D → D → Option D := gI (fun i j => decide (0 ≤ j ∧ j ≤ 1000000 ∧ i.natAbs < 2 ^ 64)) fun i j => i ^ j.toNat
noncomputable abbrev gShl : D → D → Option D := gI (fun i j => decide (0 ≤ j ∧ j ≤ 1000000 ∧ i.natAbs < 2 ^ 64)) fun i j => i * 2 ^ j.toNat
noncomputable def mulC (i j : Int) : Bool := decide ((-(2 ^ 64) < i ∧ i < 2 ^ 64) ∨ (-(2 ^ 64) < j ∧ j < 2 ^ 64))
noncomputable abbrev gMul : D → D → Option D := gI mulC fun i j => i * j
theorem o_mul {X : Cx} : OpS X (binaryOp .Mult) gMul := opS_I op_mul fun i j h => by simpa [mulC, CMul] using h
noncomputable abbrev gLt : D → D → Option D := gB0 fun i j => decide (i < j)
noncomputable abbrev gGt : D → D → Option D := gB0 fun i j => decide (j < i)
noncomputable abbrev gGe : D → D → Option D := gB0 fun i j => decide (j ≤ i)
noncomputable def cyChk (N N' : List Str) (names : List (Str × NameKind)) (kd : Str → Option NameKind) : Bool :=
 decide ((names.map (·.1)).Nodup) && decide (N.length ≤ N'.length) && names.all (fun p => p.2 != .free || kd p.1 == some .cell || kd p.1 == some .free) &&
  (List.range N.length).all fun i => match N'[i]? with
   | none => true
   | some x => match names.lookup x with
    | none => true
    | some k => k == .free && N[i]? == some x
theorem cy_of {X : Cx} {N' : List Str} {scope : Scope} (hk : scope.kind = .function) (h : cyChk X.N N' scope.names X.env.kindOf = true) : CyOk X N' scope := by
 unfold cyChk at h
 simp only [Bool.and_eq_true, decide_eq_true_eq] at h
 obtain ⟨⟨⟨h1, h2⟩, h3⟩, h4⟩ := h
 have look : ∀ i x, i < X.N.length → N'[i]? = some x → (∃ k, (x, k) ∈ scope.names) → (x, NameKind.free) ∈ scope.names ∧ X.N[i]? = some x := fun i x hi e hq0 => by
  obtain ⟨k, hm⟩ := hq0
  have := List.all_eq_true.mp h4 i (List.mem_range.mpr hi)
  rw [e] at this
  simp only at this
  rw [lookup_mem h1 hm] at this
  simp only [Bool.and_eq_true, beq_iff_eq] at this
  obtain ⟨e1, e2⟩ := this
  subst e1
  exact ⟨hm, e2⟩
 refine ⟨hk, h1, h2, fun x hx => ?_, fun i x hi e hx => (look i x hi e ⟨_, hx⟩).2, fun i x hi e hx => (look i x hi e hx).1⟩
 have := List.all_eq_true.mp h3 _ hx
 simp at this
 exact this
end DD
namespace DD
open PySem PySem.Spec PyProof.Rows L2
section
variable {X : Cx} {es : List Expr} {ps : List DP} {pos : Pos}
theorem OwL.ofBor {K : PySem.W.Frag} {F : Addr → Prop} {H : Hp} : ∀ {ds : List D} {vs : List V}, BorL K F H ds vs → ∃ L, OwL K F H ds vs L
 | [], [], _ => ⟨[], by simp only [OwL]; exact ⟨trivial, trivial⟩⟩
 | d :: ds, v :: vs, ⟨⟨L1, o⟩, r⟩ => by
  obtain ⟨L2, ol⟩ := OwL.ofBor r
  exact ⟨L1 ++ L2, by simp only [OwL]; exact ⟨v, vs, L1, L2, rfl, o, ol, rfl⟩⟩
noncomputable def pLst (ps : List DP) : DP := fun σ => (evB ps σ).bind fun ds => if ds.length ≤ sizeLine then some (.lst true ds) else none
theorem qb_lst (h : QBA X es ps) : QB X (.List es pos) (pLst ps) := PE_imp (pe_lst h) fun σ H Q hq0 => by
 obtain ⟨F, R, σD, d, r, ec, k⟩ := hq0
 unfold pLst at ec
 rcases h1 : evB ps σD with _ | ds
 ·rw [h1] at ec; cases ec
 ·rw [h1] at ec; simp only [bind_some] at ec
  split at ec
  ·rename_i hz
   cases ec
   refine ⟨F, R, σD, ds, r, h1, fun F1 H1 vs g1 b1 => ?_⟩
   obtain ⟨L, ol⟩ := OwL.ofBor b1
   refine ⟨by rw [ol.length]; exact hz, fun p hp => ?_⟩
   have nF : ∀ c, F1 c → c ≠ p := fun c fc z => by
    obtain ⟨o, h⟩ := g1.dm r.g.dom c fc
    rw [z, hp] at h; cases h
   have gr : Grow F1 H1 F1 (upd H1 p (.lst vs)) := ⟨fun c fc => ⟨fc, upd_ne (nF c fc)⟩, fun c o e => by rw [upd_ne (ne_of_none e hp)]; exact e, fun c fc => .inl fc, fun dm c fc => by rw [upd_ne (nF c fc)]; exact dm c fc⟩
   refine k F1 _ _ (g1.trans gr) ⟨p :: L, ?_⟩
   simp only [Ow]
   exact ⟨p, vs, L, rfl, upd_same, ol.mono gr.x fun c hc => by
    obtain ⟨o, e⟩ := ol.dom c hc
    rw [upd_ne (ne_of_none e hp)], rfl⟩
  ·cases ec
end
end DD
namespace DD
open PySem PySem.Spec PyProof.Rows L2
theorem dS_some {p : DP} {σ σ' : DSt} {d : D} (h : dS p σ = some (d, σ')) : p σ = some d ∧ σ' = σ ∧ ∃ w, d.sc = some w := by
 unfold dS at h
 rcases hp : p σ with _ | x
 ·rw [hp] at h; cases h
 ·rw [hp] at h
  simp only [bind_some] at h
  rcases hs : x.sc with _ | w
  ·rw [hs] at h; cases h
  ·rw [hs] at h; cases h
   exact ⟨rfl, rfl, w, hs⟩
theorem qt_cmpB {X : Cx} {a b : Expr} {p q : DP} {pos : Pos} {op : CmpOp} {g : D → D → Option D} (o : OpS X (compareOp op) g) (ha : QB X a p) (hb : QB X b q) (hm : behindInMarks op b = false) : QT X (.Compare a [op] [b] pos) (dTest (dS (pOp g p q))) :=
 PT_imp (pt_cmpR o.run ha hb hm) fun σ H Q hq0 => by
  obtain ⟨F, R, σD, k, σD', r, ec, kk⟩ := hq0
  obtain ⟨e1, e2, w, hw⟩ := dS_some (dTest_some ec)
  subst e2
  show tOp _ _ _ σ H _
  exact rOpB o ⟨F, R, _, _, r, e1, fun F' H' v g' b' => ⟨k, b'.bl, kk F' H' g'.x (r.grow g')⟩⟩
end DD
namespace DD
open PySem PySem.Spec PyProof.Rows L2
section
variable {X : Cx} {e tg elt iter : Expr} {ifs : List Expr} {g : DG} {t : DT} {c : DE} {i : DI} {pos : Pos} {W : List Nat} {scope : Scope} {k : Nat}
theorem lc_e (N' : List Str) (hi : QI X tg iter i) (hg : ∀ cl s H fp pins, QG (cyOf X N' scope cl s H fp pins) tg g W) (ht : ∀ cl s H fp pins, QIf (cyOf X N' scope cl s H fp pins) ifs t)
  (he : ∀ cl s H fp pins, QE (cyOf X N' scope cl s H fp pins) elt c) (hk : autoParam (N'.length - X.N.length = k) Ax4._auto_1) (hw : autoParam ((W.all fun i => decide (X.N.length ≤ i)) = true) Ax4._auto_1) (hc : autoParam (X.calm = true) Ax4._auto_1) (hkd : autoParam (scope.kind = .function) Ax4._auto_1) (T : autoParam (cyChk X.N N' scope.names X.env.kindOf = true) Ax4._auto_1) (hs : autoParam (∀ x, foldedSetIterable iter X.env x = pure x) Ax3._auto_1) :
  QE X (.ListComp elt [⟨tg, iter, ifs, 0⟩] scope pos) (dLc k i g t c) := by
 subst hk
 exact qe_lc hc (cy_of hkd T) hi hg ht he (fun j hj => by simpa using List.all_eq_true.mp hw j hj) hs
theorem lc_s (ix : Nat) (N' : List Str) {y : Str} {py spos : Pos} (hN : X.N.Nodup) (hi : QI X tg iter i) (hg : ∀ cl s H fp pins, QG (cyOf X N' scope cl s H fp pins) tg g W) (ht : ∀ cl s H fp pins, QIf (cyOf X N' scope cl s H fp pins) ifs t)
  (he : ∀ cl s H fp pins, QE (cyOf X N' scope cl s H fp pins) elt c) (hk : autoParam (N'.length - X.N.length = k) Ax4._auto_1) (hw : autoParam ((W.all fun i => decide (X.N.length ≤ i)) = true) Ax4._auto_1) (hc : autoParam (X.calm = true) Ax4._auto_1) (hkd : autoParam (scope.kind = .function) Ax4._auto_1) (T : autoParam (cyChk X.N N' scope.names X.env.kindOf = true) Ax4._auto_1)
  (hsw : autoParam (swapsWith (.ListComp elt [⟨tg, iter, ifs, 0⟩] scope pos) (some (.Name y py)) spos.line X.env = pure true) Ax4._auto_1)
  (hiN : autoParam (X.N[ix]? = some y) Ax4._auto_1) (hx : autoParam (Loc X.env.scope y) Ax8._auto_1) (hs : autoParam (∀ x, foldedSetIterable iter X.env x = pure x) Ax3._auto_1) (hf : autoParam (X.fn y = true ∨ X.env.scope.names.lookup y = some .local) Ax0._auto_1) :
  QS X (.Assign [.Name y py] (.ListComp elt [⟨tg, iter, ifs, 0⟩] scope pos) spos) (sSet ix (dLc k i g t c)) [ix] := by
 subst hk
 exact qs_set_lc ix hN hc (cy_of hkd T) hi hg ht he (fun j hj => by simpa using List.all_eq_true.mp hw j hj) hsw hiN hx hs hf
end
end DD
namespace DD
open PySem PySem.Spec PyProof.Rows L2
noncomputable def give (x : Nat) (σ : DSt) : D × DSt := match dget σ x with
 | some d => (match d.sc with | some _ => (d, σ) | none => (d, σ.set x none))
 | none => (.hole, σ)
noncomputable def Out.upd (f : DSt → DSt) : Out → Out
 | .nx σ => .nx (f σ)
 | .bk σ => .bk (f σ)
 | .ct σ => .ct (f σ)
 | .rt d σ => .rt d (f σ)
noncomputable def bLoop (x : Nat) (b : DS) : List D → DSt → Option (Out × List D)
 | [], σ => some (.nx σ, [])
 | d :: ds, σ => (b (σ.set x (some d))).bind fun o => match o with
  | .nx σ2 => (bLoop x b ds (give x σ2).2).map fun r => (r.1, (give x σ2).1 :: r.2)
  | .ct σ2 => (bLoop x b ds (give x σ2).2).map fun r => (r.1, (give x σ2).1 :: r.2)
  | .bk σ2 => some (.nx (give x σ2).2, (give x σ2).1 :: ds)
  | .rt d' σ2 => some (.rt d' (give x σ2).2, (give x σ2).1 :: ds)
noncomputable def sForB (i x : Nat) (b : DS) : DS := fun σ => match dget σ i with
 | some (.lst true xs) => if x < σ.length then (bLoop x b xs (σ.set i none)).map fun r => r.1.upd fun σ2 => σ2.set i (some (.lst true r.2)) else none
 | _ => none
section
variable {K : PySem.W.Frag} {F F' : Addr → Prop} {H H' : Hp}
theorem give_ok {σD : DSt} {σ : St} {R : Ro} {x : Nat} {y : V} (r : Rel K F H σD σ R) (hy : σ[x]? = some (some y)) : Rel K F H (give x σD).2 σ (((give x σD).1, y) :: R) := by
 unfold give
 rcases h : dget σD x with _ | d
 ·exact r.push (by simp only [Ow])
 ·simp only
  obtain ⟨v, hv, r1⟩ := r.take (dget_some h)
  rw [hy] at hv; cases hv
  rcases hs : d.sc with _ | w
  ·exact r1
  ·have e : y = w := (r1.bor (by simp)).sc hs
   subst e
   exact r.scal hs
end
section
variable {X : Cx} {s : DS} {pos : Pos} {W' : List Nat} {body : List Stmt}
theorem Kp.at {W : List Nat} {σ σ' : St} (h : Kp W σ σ') {i : Nat} (hi : (W.contains i) = false) : σ'[i]? = σ[i]? := h i (by simpa using hi)
theorem qs_forB (i x : Nat) {xn yn : Str} {npos tpos : Pos} (hnd : X.N.Nodup) (hb : QSs X body s W') (hp : PassesOwn (model X.prog X.w) X.A X.env X.xe) (hc : autoParam (X.calm = true) Ax4._auto_1) (hxi : autoParam (((x :: W').contains i) = false) Ax4._auto_1) (hxw : autoParam ((W'.contains x) = false) Ax4._auto_1)
  (hN : autoParam (X.N[i]? = some xn) Ax4._auto_1) (hv : autoParam (Vis X.env.scope xn) Ax6._auto_1) (hd : autoParam ((xn == ("__debug__" : Str)) = false) Ax1._auto_1) (hcd : autoParam ((xn == ("__classdict__" : Str)) = false) Ax1._auto_1)
  (hNx : autoParam (X.N[x]? = some yn) Ax4._auto_1) (hl : autoParam (Loc X.env.scope yn) Ax8._auto_1) (hfn : autoParam (X.fn yn = true ∨ X.env.scope.names.lookup yn = some .local) Ax0._auto_1)
  (hf : autoParam (∀ y, foldedSetIterable (.Name xn npos) X.env y = pure y) Ax3._auto_1) : QS X (.For (.Name yn tpos) (.Name xn npos) body [] pos) (sForB i x s) (x :: W') :=
 PS_imp (ps_for hp hc (pi_list (pe_var hN hv hd hcd)) (pg_name hnd hNx hl hfn) hb hf) fun En σ H hq0 => by
  obtain ⟨F, R, σD, o, r, ec, k⟩ := hq0
  have hxi' : i ≠ x := by rintro rfl; simp at hxi
  unfold sForB at ec
  split at ec
  ·rename_i xs h1
   split at ec
   ·rename_i hxl
    rcases hB : bLoop x s xs (σD.set i none) with _ | ⟨o1, items⟩
    ·rw [hB] at ec; cases ec
    ·rw [hB] at ec
     cases ec
     obtain ⟨v0, hv0, r0⟩ := r.take (dget_some h1)
     obtain ⟨a, vs, rfl, ha, hlen, r1⟩ := r0.openN
     have hlσ : x < σ.length := by rw [← r.mt.length]; exact hxl
     -- the list put together again
     have fin : ∀ {F2 H2 σD2 σ2 items2} {S : Ro}, Kp (x :: W') σ σ2 → items2.length = vs.length → Rel X.K F2 H2 σD2 σ2 ((.node a vs, .ref a) :: (items2.zip vs ++ (S ++ R))) → Rel X.K F2 H2 (σD2.set i (some (.lst true items2))) σ2 (S ++ R) := fun {F2 H2 σD2 σ2 items2 S} kp hl2 r2 =>
      (r2.formN hl2).put (by rw [kp.at hxi]; exact hv0)
     refine ⟨_, hv0, a, rfl, ⟨vs, .inl (.inl ha)⟩, ?_⟩
     refine for_list (K := X.K) (a := a) (xs := vs) (g := gName x) (tb := rS X.K s W') (fun n σ1 H1 => ∃ F2 σD1 dn r', Ext F H F2 H1 ∧ Kp (x :: W') σ σ1 ∧ x < σ1.length ∧
       Rel X.K F2 H1 σD1 σ1 ((.node a vs, .ref a) :: (dn.zip (vs.take n) ++ ((xs.drop n).zip (vs.drop n) ++ R))) ∧ dn.length = n ∧ bLoop x s (xs.drop n) σD1 = some r' ∧ r'.1 = o1 ∧ dn ++ r'.2 = items)
      ⟨F, _, [], (o1, items), Ext.refl, Kp.refl, hlσ, by simpa using r1, rfl, by simpa using hB, rfl, rfl⟩ (fun n σ1 H1 _ ⟨F2, σD1, dn, r', _, _, _, r2, _⟩ => .inl (.inl (r2.nodeAt (by simp)))) ?_ ?_
     ·rintro n y σ1 H1 hn ⟨F2, σD1, dn, r', x2, kp1, hl1, r2, hdn, hB2, hr1, hr2⟩
      have hnl : n < vs.length := (List.getElem?_eq_some_iff.mp hn).1
      have hnl' : n < xs.length := by rw [hlen]; exact hnl
      have ey : vs[n] = y := by rw [List.getElem?_eq_getElem hnl] at hn; exact Option.some.inj hn
      rw [List.drop_eq_getElem_cons hnl', List.drop_eq_getElem_cons hnl, ey] at r2
      rw [List.drop_eq_getElem_cons hnl'] at hB2
      have r3 : Rel X.K F2 H1 σD1 σ1 ((xs[n], y) :: ((.node a vs, .ref a) :: (dn.zip (vs.take n) ++ ((xs.drop (n + 1)).zip (vs.drop (n + 1)) ++ R)))) := r2.perm (by
       have p1 : ((D.node a vs, V.ref a) :: (dn.zip (vs.take n) ++ ((xs[n] :: xs.drop (n + 1)).zip (y :: vs.drop (n + 1)) ++ R))).Perm ((D.node a vs, V.ref a) :: ((xs[n], y) :: (dn.zip (vs.take n) ++ ((xs.drop (n + 1)).zip (vs.drop (n + 1)) ++ R)))) := .cons _ List.perm_middle
       exact p1.trans (.swap _ _ _))
      have r4 := r3.store (i := x) hl1
      simp only [bLoop] at hB2
      rcases h2 : s (σD1.set x (some xs[n])) with _ | o2
      ·rw [h2] at hB2; cases hB2
      ·rw [h2] at hB2; simp only [bind_some] at hB2
       refine ⟨F2, _, _, o2, r4, h2, fun F3 H3 σ3 x3 kp3 => ?_⟩
       have kp4 : Kp (x :: W') σ σ3 := fun kk hk => by
        have hkw : kk ∉ W' := fun z => hk (by simp [z])
        have hkx : x ≠ kk := fun z => hk (by simp [z])
        rw [kp3 kk hkw, List.getElem?_set_ne hkx, kp1 kk hk]
       have hx3 : σ3[x]? = some (some y) := by
        rw [kp3.at hxw]; simp [hl1]
       have l3 : x < σ3.length := (List.getElem?_eq_some_iff.mp hx3).1
       have tk : vs.take (n + 1) = vs.take n ++ [y] := by rw [List.take_succ, hn]; rfl
       -- behind a turn that goes on
       have goon : ∀ {σD3 : DSt}, (bLoop x s (xs.drop (n + 1)) (give x σD3).2).map (fun r => (r.1, (give x σD3).1 :: r.2)) = some r' → Rel X.K F3 H3 σD3 σ3 ((.node a vs, .ref a) :: (dn.zip (vs.take n) ++ ((xs.drop (n + 1)).zip (vs.drop (n + 1)) ++ R))) →
         ∃ F2 σD1 dn r', Ext F H F2 H3 ∧ Kp (x :: W') σ σ3 ∧ x < σ3.length ∧ Rel X.K F2 H3 σD1 σ3 ((.node a vs, .ref a) :: (dn.zip (vs.take (n + 1)) ++ ((xs.drop (n + 1)).zip (vs.drop (n + 1)) ++ R))) ∧ dn.length = n + 1 ∧ bLoop x s (xs.drop (n + 1)) σD1 = some r' ∧ r'.1 = o1 ∧ dn ++ r'.2 = items := fun {σD3} hm r5 => by
        rcases h3 : bLoop x s (xs.drop (n + 1)) (give x σD3).2 with _ | r6
        ·rw [h3] at hm; cases hm
        ·rw [h3] at hm
         cases hm
         refine ⟨F3, _, dn ++ [(give x σD3).1], r6, x2.trans x3, kp4, l3, ?_, by simp [hdn], h3, hr1, by rw [← hr2]; simp⟩
         have r7 := give_ok r5 hx3
         rw [tk, List.zip_append (by simp [hdn]; omega)]
         refine r7.perm ?_
         have p1 : (((give x σD3).1, y) :: (D.node a vs, V.ref a) :: (dn.zip (vs.take n) ++ ((xs.drop (n + 1)).zip (vs.drop (n + 1)) ++ R))).Perm ((D.node a vs, V.ref a) :: ((give x σD3).1, y) :: (dn.zip (vs.take n) ++ ((xs.drop (n + 1)).zip (vs.drop (n + 1)) ++ R))) := .swap _ _ _
         refine p1.trans (.cons _ ?_)
         rw [List.append_assoc]
         exact List.perm_middle.symm
       -- a turn that ends the loop
       have stop : ∀ {σD3 : DSt} {S : Ro}, Rel X.K F3 H3 σD3 σ3 (S ++ ((.node a vs, .ref a) :: (dn.zip (vs.take n) ++ ((xs.drop (n + 1)).zip (vs.drop (n + 1)) ++ R)))) → (dn ++ (give x σD3).1 :: xs.drop (n + 1)) = items → Rel X.K F3 H3 ((give x σD3).2.set i (some (.lst true items))) σ3 (S ++ R) := fun {σD3 S} r5 hit => by
        have r7 := give_ok r5 hx3
        refine fin (S := S) kp4 (by rw [← hit]; simp [hdn]; omega) ?_
        rw [← hit]
        have ez : (dn ++ (give x σD3).1 :: xs.drop (n + 1)).zip vs = dn.zip (vs.take n) ++ (((give x σD3).1, y) :: (xs.drop (n + 1)).zip (vs.drop (n + 1))) := by
         have : vs = vs.take n ++ y :: vs.drop (n + 1) := by
          rw [← ey, ← List.drop_eq_getElem_cons hnl, List.take_append_drop]
         conv => lhs; rw [this]
         rw [List.zip_append (by simp [hdn]; omega)]
         rfl
        rw [ez]
        refine r7.perm ?_
        have p1 : (((give x σD3).1, y) :: (S ++ ((D.node a vs, V.ref a) :: (dn.zip (vs.take n) ++ ((xs.drop (n + 1)).zip (vs.drop (n + 1)) ++ R))))).Perm (((give x σD3).1, y) :: ((D.node a vs, V.ref a) :: (S ++ (dn.zip (vs.take n) ++ ((xs.drop (n + 1)).zip (vs.drop (n + 1)) ++ R))))) := .cons _ List.perm_middle
        refine p1.trans ((List.Perm.swap _ _ _).trans (.cons _ ?_))
        have p2 : (((give x σD3).1, y) :: (S ++ (dn.zip (vs.take n) ++ ((xs.drop (n + 1)).zip (vs.drop (n + 1)) ++ R)))).Perm (((give x σD3).1, y) :: (dn.zip (vs.take n) ++ ((xs.drop (n + 1)).zip (vs.drop (n + 1)) ++ (S ++ R)))) := by
         refine .cons _ ((List.perm_append_comm_assoc _ _ _).trans (List.Perm.append_left _ ?_))
         exact List.perm_append_comm_assoc _ _ _
        refine p2.trans ?_
        rw [List.append_assoc, List.cons_append]
        exact List.perm_middle.symm
       cases o2 with
       | nx σ4 => exact fun r5 => goon hB2 r5
       | ct σ4 => exact fun r5 => goon hB2 r5
       | bk σ4 =>
        cases hB2
        subst hr1
        exact fun r5 => k F3 H3 σ3 (x2.trans x3) kp4 (stop (S := []) r5 hr2)
       | rt d' σ4 =>
        cases hB2
        subst hr1
        exact fun v r5 => k F3 H3 σ3 (x2.trans x3) kp4 v (stop (S := [(d', v)]) r5 hr2)
     ·rintro σ1 H1 ⟨F2, σD1, dn, r', x2, kp1, hl1, r2, hdn, hB2, hr1, hr2⟩
      have e1 : xs.drop vs.length = [] := List.drop_eq_nil_of_le (by rw [hlen]; exact Nat.le_refl _)
      rw [e1] at hB2 r2
      simp only [bLoop] at hB2
      cases hB2
      subst hr1
      rw [List.append_nil] at hr2
      subst hr2
      refine k F2 H1 σ1 x2 kp1 (fin (S := []) kp1 (by rw [hdn]) ?_)
      have : vs.take vs.length = vs := List.take_length
      rw [this] at r2
      simpa using r2
   ·cases ec
  ·cases ec
end
end DD
namespace DD
open PySem PySem.Spec PyProof.Rows L2
section
variable {X : Cx} {elt : Expr} {ifs : List Expr} {t : DT} {c : DE} {pos : Pos} {scope : Scope}
end
end DD
namespace DD
open PySem PySem.Spec PyProof.Rows L2
noncomputable def ownL (i : Nat) (σ : DSt) : Bool := match dget σ i with | some (.lst true _) => true | _ => false
noncomputable def sSel (P : DSt → Bool) (c c' : DS) : DS := fun σ => if P σ = true then c σ else c' σ
theorem qs_sel {X : Cx} {st : Stmt} {c c' : DS} {W W' : List Nat} (P : DSt → Bool) (h : QS X st c W) (h' : QS X st c' W') : QS X st (sSel P c c') (W ++ W') := by
 rintro pins s σ H En I ⟨F, R, σD, o, r, ec, k⟩
 unfold sSel at ec
 split at ec
 ·exact h pins s σ H En I ⟨F, R, σD, o, r, ec, fun F' H' σ' x kp => k F' H' σ' x (kp.mono fun k hk => by simp [hk])⟩
 ·exact h' pins s σ H En I ⟨F, R, σD, o, r, ec, fun F' H' σ' x kp => k F' H' σ' x (kp.mono fun k hk => by simp [hk])⟩
theorem law_sp {K : PySem.W.Frag} {H : Hp} {a : Addr} {ns : List Int} {g : GF} {E : XK} (hg : ∃ d, g [.lst false (ns.map D.int)] = some (.bl true, [d])) (hS : SqL K H a (ns.map V.int)) : spD K 1 g [.ref a] H (fun v _ => v = .bl true) E := by
 obtain ⟨d, hd⟩ := hg
 refine ⟨rfl, fun c => ∃ o, H c = some o, [], [.lst false (ns.map D.int)], .bl true, [d], rfl, ⟨⟨[], ?_, List.nodup_nil, fun c hc => by cases hc⟩, fun c hc => hc⟩, hd, fun F' H' v x _ g => ?_⟩
 ·have ol : ∀ ms : List Int, OwL K (fun c => ∃ o, H c = some o) H (ms.map D.int) (ms.map V.int) [] := by
   intro ms
   induction ms with
   | nil => simp only [List.map_nil, OwL]; exact ⟨trivial, trivial⟩
   | cons m ms ih => simp only [List.map_cons, OwL]; exact ⟨_, _, [], [], rfl, Ow.of_sc rfl, ih, rfl⟩
  refine ⟨[], [], ?_, rfl, rfl⟩
  simp only [Ow]
  refine ⟨a, ns.map V.int, rfl, ?_, ol ns, trivial⟩
  rcases hS with h | h
  ·refine .inl ⟨?_, h⟩
   rcases h with h | ⟨o, h⟩ <;> exact ⟨_, h⟩
  ·exact .inr fun H' => .inr h
 ·exact (g.bor (d := .bl true) (v := v) (by simp)).bl
end DD
namespace DD
open PySem PySem.Spec PyProof.Rows L2
inductive PArg where
 | bo (i : Nat) | pu (p : DP) | bp (i : Nat) (q : DP)
section
variable {X : Cx} {e a b : Expr} {es : List Expr} {as : List PArg} {c : DE} {p q : DP} {pos : Pos}
variable {K : PySem.W.Frag} {F F' : Addr → Prop} {H H' : Hp}
theorem map_some_pair {α β : Type} {o : Option α} {f : α → β} {b : β} (h : o.map f = some b) : ∃ x, o = some x ∧ f x = b := by
 cases o with
 | none => cases h
 | some x => exact ⟨x, rfl, Option.some.inj h⟩
end
end DD
namespace DD
open PySem PySem.Spec PyProof.Rows L2
section
variable {X : Cx} {e o a b : Expr} {es : List Expr} {p q : DP} {c c' : DE} {pos apos cpos : Pos} {i : Nat} {js : List DP}
end
end DD
namespace DD
open PySem PySem.Spec PyProof.Rows L2
section
variable {X : Cx} {e o a b : Expr} {es : List Expr} {p q : DP} {c c' : DE} {pos apos cpos : Pos} {i : Nat} {js : List DP}
noncomputable def blsOf : List D → Option (List Bool)
 | [] => some []
 | .bl b :: xs => (blsOf xs).map fun r => b :: r
 | _ => none
noncomputable def allD : List D → Option D
 | [.lst _ xs] => (blsOf xs).map fun bs => .bl (bs.all id)
 | _ => none
theorem Rel.scs {K : PySem.W.Frag} {F : Addr → Prop} {H : Hp} {σD : DSt} {σ : St} {R : Ro} : ∀ {xs : List D} {vs : List V} {L : List Addr}, allSc xs = true → OwL K F H xs vs L → Rel K F H σD σ R → Rel K F H σD σ (xs.zip vs ++ R)
 | [], _, _, _, _, r => by simpa using r
 | x :: xs, _, _, h, o, r => by
  simp only [OwL] at o
  obtain ⟨v, ws, L1, L2, rfl, h1, h2, rfl⟩ := o
  unfold allSc at h
  rw [List.all_cons, Bool.and_eq_true, Option.isSome_iff_exists] at h
  obtain ⟨⟨w, hw⟩, ht⟩ := h
  have r2 := Rel.scs (xs := xs) ht h2 r
  have hv := (h1.sc hw).1
  subst hv
  exact r2.scal hw
noncomputable def dListB (p : DP) : DE := fun σ => (p σ).bind fun d => match d with
 | .lst _ xs => if allSc xs = true then some (.lst true xs, σ) else none
 | _ => none
theorem call_list1 : CallR X (.type "list") (fun vs H Q => ∃ a xs, vs = [.ref a] ∧ SqL X.K H a xs ∧ ∀ p, H p = none → Q (.ref p) (upd H p (.lst xs))) := by
 rintro pins s σ H vs us Q I rv ⟨a, xs, e, sq, q⟩
 subst e
 obtain ⟨u, rfl, ru⟩ := vals1 rv
 cases ru
 obtain ⟨its, r, ⟨o, n, hg, hc, hsl, hd⟩, hz⟩ := I.list sq
 refine call_list_seq a (.inl rfl) hg hc hd (fun h' c' hk hn => ?_) (by rw [List.size_toArray, ← r.length]; exact hz)
 exact ⟨.ref s.heap.objs.size, _, I.laid (o := .lst xs) hk (Nat.le_refl _) ⟨hz, its, c', r, hn⟩, rfl, q _ I.fresh⟩
theorem qe_listB {x : Str} {p1 pos : Pos} (hg : Gl X x) (hm : X.mg x = none) (hv : bootBuiltins x = some (.type "list")) (ha : QB X e p) (hn : autoParam (x ≠ "__name__") Ax1._auto_1) (hdb : autoParam ((x == ("__debug__" : Str)) = false) Ax1._auto_1)
  (he : autoParam (starEach [e] X.env = (false, eval e X.env) :: starEach [] X.env) Ax4._auto_1) (hpl : autoParam ((backTo pos (starEach [] X.env)).any (·.1) = false) Ax4._auto_1) : QE X (.Call (.Name x p1) [e] [] pos) (dListB p) :=
 PE_imp (pe_callTy call_list1 hg hm hv (pa_cons ha pa_nil he) hn hdb he hpl) fun σ H Q hq0 => by
  obtain ⟨F, R, σD, d, σD', r, ec, k⟩ := hq0
  unfold dListB at ec
  rcases h1 : p σD with _ | x
  ·rw [h1] at ec; cases ec
  ·rw [h1] at ec; simp only [bind_some] at ec
   split at ec
   ·rename_i o xs
    split at ec
    ·rename_i hs
     cases ec
     refine ⟨F, R, σD, _, r, h1, fun F1 H1 v g1 b1 => ?_⟩
     obtain ⟨a, ws, rfl, sq, L, ol⟩ := b1.lst
     refine ⟨a, ws, rfl, sq, fun p hp => ?_⟩
     have r2 := Rel.scs hs ol (r.grow g1)
     obtain ⟨r3, x3⟩ := r2.layL ol.toP.1 hp
     exact k F1 _ _ (g1.x.trans x3) r3
    ·cases ec
   ·cases ec
end
end DD
namespace DD
open PySem PySem.Spec PySem.Calls PyProof.Rows L2 PySem.W PySem.Builtin PySem.Builtin.Str
section
variable {X : Cx} {apos cpos : Pos}
end
end DD
namespace DD
open PySem PySem.Spec PyProof.Rows L2
section
variable {X : Cx} {e o a b : Expr} {es : List Expr} {p q : DP} {c c' : DE} {pos apos cpos : Pos} {i : Nat} {js : List DP}
end
end DD
namespace DD
open PySem PySem.Spec PyProof.Rows L2
section
variable {X : Cx} {e a b : Expr} {lo hi : Option Expr} {pl ph : Option DP} {p q : DP} {c c' : DE} {pos p2 : Pos} {i : Nat}
end
theorem grow_tup {F1 : Addr → Prop} {H1 : Hp} {p : Addr} {us : List V} (dm : ∀ a, F1 a → ∃ o, H1 a = some o) (hp : H1 p = none) : Grow F1 H1 (fun c => F1 c ∨ c = p) (upd H1 p (.tup us)) := by
 have nF : ∀ c, F1 c → c ≠ p := fun c fc z => by obtain ⟨o, h⟩ := dm c fc; rw [z, hp] at h; cases h
 refine ⟨fun c fc => ⟨.inl fc, upd_ne (nF c fc)⟩, fun c o e => by rw [upd_ne (ne_of_none e hp)]; exact e, fun c fc => ?_, fun _ c fc => ?_⟩
 ·rcases fc with fc | fc
  ·exact .inl fc
  ·exact .inr (fc ▸ hp)
 ·rcases fc with fc | fc
  ·rw [upd_ne (nF c fc)]; exact dm c fc
  ·subst fc; exact ⟨_, upd_same⟩
section
variable {X : Cx} {e tg elt iter : Expr} {ifs : List Expr} {g : DG} {t : DT} {c : DE} {i : DI} {pos : Pos} {W : List Nat} {N' : List Str} {scope : Scope}
end
section
variable {X : Cx} {elt tg : Expr} {ifs : List Expr} {g : DG} {t : DT} {c : DE} {pos : Pos} {W : List Nat} {scope : Scope} {k : Nat} {elts : List Expr} {x1 : Nat} {tpos p1 pos1 npos npos2 : Pos}
end
end DD
namespace DD
open PySem PySem.Spec PyProof.Rows L2
section
variable {X : Cx} {a b : Expr} {c : DE} {p q : DP} {pos : Pos}
end
end DD
namespace L2
open PySem PySem.Spec PyProof.Rows
noncomputable def Ite (K : PySem.W.Frag) (a : Addr) (n0 : Nat) : It :=
 ⟨fun i H => ∃ xs x, SqL K H a xs ∧ xs[i]? = some x,
  fun i H x H' => ∃ p u, (∀ xs, SqL K H a xs → xs[i]? = some u) ∧ H p = none ∧ H' = upd H p (.tup [.int ((n0 + i : Nat) : Int), u]) ∧ x = .ref p,
  fun i H => ∃ xs, SqL K H a xs ∧ xs.length = i⟩
theorem drawsFrom {prog : Program} {w : World} {A : Around} (hh : A.handled = none) (it l : Addr) (hne : l ≠ it) (items : Array Value) (n0 : Nat) :
  Draws prog w A it [it, l] (n0 + items.size) (fun i v => n0 ≤ i ∧ items[i - n0]? = some v) (fun i h => n0 ≤ i ∧ h.IsListIter it l (i - n0) ∧ h.IsList l items) where
 live := fun _ _ q => by obtain ⟨o, ho, _⟩ := q.2.1; exact ⟨o, ho⟩
 frame := fun _ _ _ q hk => ⟨q.1, q.2.1.at fun o e => hk it (by simp) o e, q.2.2.at fun o e => hk l (by simp) o e⟩
 item := fun i s Q E hi q hQ => by
  have hl : i - n0 < items.size := by have := q.1; omega
  refine wpAny_nextOf_list_item q.2.1 q.2.2 (x := items[i - n0]) (by simp [hl]) fun h' hit' hs' => ?_
  refine hQ _ h' s.toks ⟨q.1, by simp [hl]⟩ ⟨Nat.le_succ_of_le q.1, ?_, q.2.2.extBut hs'.extBut hne⟩ hs'
  rw [show i + 1 - n0 = i - n0 + 1 by have := q.1; omega]
  exact hit'
 done := fun s Q E q hE => wpAny_nextOf_list_end hh q.2.1 q.2.2 (by simp) hE
theorem turn_enum {P : Program} {w : World} {K : PySem.W.Frag} {elts : List Expr} {x1 : Nat} {tpos : Pos} (a z it : Addr) (n0 : Nat) (D : z ≠ it) :
  Turn P w K (.Tuple elts x1 tpos) (Ite K a n0) [z, it] z (fun i h => (∃ old, IsEnum h z it ((n0 + i : Nat) : Int) old) ∧ h.IsListIter it a i) where
 mem := by simp
 obj := fun i h hq0 c hc => by
  obtain ⟨⟨old, hz⟩, ⟨o1, e1, c1, d1⟩⟩ := hq0
  simp only [List.mem_cons, List.not_mem_nil, or_false] at hc
  rcases hc with rfl | rfl
  ·exact ⟨_, hz, fun v z => nomatch z⟩
  ·exact ⟨_, e1, fun v z => by rw [d1] at z; cases z⟩
 keep := fun i h h' ⟨⟨old, hz⟩, h1⟩ k => ⟨⟨old, k z (by simp) _ hz⟩, h1.at fun o e => k it (by simp) o e⟩
 item := by
  rintro X hP hw hK hc i pins s σ H E I hf ⟨⟨old, hz⟩, h1⟩ ⟨xs, x, hq, hx⟩
  subst hP hw hK
  obtain ⟨its, rv, p1, _⟩ := I.list hq
  obtain ⟨u, hu, ru⟩ := rv.get hx
  have na : a ≠ z := list_tracked I hq (hf z (by simp)) ⟨_, hz, by simp⟩
  have nb : a ≠ it := list_tracked I hq (hf it (by simp)) (by obtain ⟨o1, e1, c1, d1⟩ := id h1; exact ⟨_, e1, by rw [c1]; simp⟩)
  have hil : i < its.length := (List.getElem?_eq_some_iff.mp hu).1
  refine wpAny_pyNext_enum_itemD (drawsFrom (A := X.A.in1) (I.ok.hd hc) it a nb its.toArray n0) hz ⟨Nat.le_add_right _ _, by rw [Nat.add_sub_cancel_left]; exact h1, p1.isList⟩ (by simp [hil]) D (by simp [D, na.symm]) fun v h' tk hv ho hst hT hsz hk => ?_
  have ev : v = u := by
   have h2 := hv.2
   rw [Nat.add_sub_cancel_left] at h2
   simp only [List.getElem?_toArray] at h2
   rw [hu] at h2; exact (Option.some.inj h2).symm
  subst ev
  have hf2 : ∀ c ∈ [z, it], FpOk X pins H c := fun c hc => hf c hc
  have hk' : ∀ c o, c ∉ [z, it] → s.heap.get? c = some o → h'.get? c = some o := fun c o hc e => hk c o (fun q => hc (by simp [q])) (fun q => hc (by simp [q])) e
  have I0 : Inv X pins σ (upd H s.heap.objs.size (.tup [.int ((n0 + i : Nat) : Int), x])) { s with heap := h' } := I.turnT hf2 (u := .int ((n0 + i : Nat) : Int)) ⟨tk, rfl⟩ ru hk' hT (fun c hc => by
   obtain ⟨o1, e1, _⟩ := id hst.2.1
   simp only [List.mem_cons, List.not_mem_nil, or_false] at hc
   rcases hc with rfl | rfl
   ·exact ⟨_, ho⟩
   ·exact ⟨_, e1⟩)
  have I1 : Inv X pins σ (upd H s.heap.objs.size (.tup [.int ((n0 + i : Nat) : Int), x])) { s with heap := h', toks := tk + 1 } := I0.kept (t' := tk + 1) (fun _ _ e => e)
  have hfr : H s.heap.objs.size = none := I.fresh
  refine ⟨_, rfl, wpAny_letOwnedTupleGo_enum (s := { s with heap := h', toks := tk + 1 }) ho fun h'' z1 sb => ?_⟩
  have hf5 : ∀ c ∈ [z, it], (upd H s.heap.objs.size (.tup [.int ((n0 + i : Nat) : Int), x])) c = none := fun c hc => by
   have lt : c < s.heap.objs.size := by
    obtain ⟨o1, e1, _⟩ := id h1
    simp only [List.mem_cons, List.not_mem_nil, or_false] at hc
    rcases hc with rfl | rfl
    ·exact Heap.lt_size hz
    ·exact Heap.lt_size e1
   rw [upd_ne (Nat.ne_of_lt lt)]; exact (hf c hc).1
  have I2 : Inv X pins σ (upd H s.heap.objs.size (.tup [.int ((n0 + i : Nat) : Int), x])) { s with heap := h'', toks := tk + 1 } := Inv.turnN (s := { s with heap := h', toks := tk + 1 }) (ch := [z]) I1 (fun c hc => by
   have : c = z := by simpa using hc
   subst this
   exact ⟨hf5 c (by simp), (hf c (by simp)).2⟩) (fun c o hc e => (sb.2 c (fun q => hc (by simp [q]))).trans e)
  refine ⟨.ref s.heap.objs.size, _, I2, rfl, ⟨_, x, fun zs hzs => by rw [I.list_inj hzs hq]; exact hx, hfr, rfl, rfl⟩, ⟨⟨_, by rw [show ((n0 + (i + 1) : Nat) : Int) = ((n0 + i : Nat) : Int) + 1 by omega]; exact z1⟩, ?_⟩, hf5⟩
  have h3 := hst.2.1
  rw [show n0 + i + 1 - n0 = i + 1 by omega] at h3
  exact h3.at fun o e => (sb.2 it D.symm).trans e
 done := by
  rintro X hP hw hK hc i pins s σ H E I hf ⟨⟨old, hz⟩, h1⟩ ⟨xs, hq, hend⟩
  subst hP hw hK
  obtain ⟨its, rv, p1, _⟩ := I.list hq
  have nb : a ≠ it := list_tracked I hq (hf it (by simp)) (by obtain ⟨o1, e1, c1, d1⟩ := id h1; exact ⟨_, e1, by rw [c1]; simp⟩)
  have hl := rv.length
  refine wpAny_pyNext_enum_endD (drawsFrom (A := X.A.in1) (I.ok.hd hc) it a nb its.toArray n0) hz ⟨Nat.le_add_right _ _, ?_, p1.isList⟩ fun h' hk => ⟨rfl, ?_⟩
  ·rw [Nat.add_sub_cancel_left, List.size_toArray, ← hl, hend]; exact h1
  ·exact I.turnN (ch := [z, it]) (fun c hc => hf c hc) fun c o hc e => hk c o (fun q => hc (by simp [q])) e
 self := fun _ _ _ _ _ ⟨⟨_, hz⟩, _⟩ h => wpAny_pyIter_enum hz h
theorem boot_enum : bootBuiltins "enumerate" = some (.type "enumerate") := by decide +kernel
noncomputable def iEnum (K : PySem.W.Frag) (n0 : Nat) (ta : TA) : TI := fun σ H R => ta σ H fun vs H1 => ∃ a, vs = [.ref a] ∧ (∃ xs, SqL K H1 a xs) ∧ R (Ite K a n0) H1
theorem enum_end {X : Cx} {pins : List (Addr × Obj)} {σ : St} {H1 : Hp} {s1 : Shared} {h' : Heap} {t' : Nat} {l : Addr} {n0 : Nat} {elts : List Expr} {x1 : Nat} {tpos : Pos} {R : It → Hp → Prop} (I1 : Inv X pins σ H1 s1) (he : IsEnum h' (s1.heap.objs.size + 1) s1.heap.objs.size (n0 : Int) .none) (hi : h'.IsListIter s1.heap.objs.size l 0)
  (hk : ∀ b o, s1.heap.get? b = some o → h'.get? b = some o) (q : R (Ite X.K l n0) H1) : PIE X pins σ (.Tuple elts x1 tpos) R (.ref (s1.heap.objs.size + 1)) { s1 with heap := h', toks := t' } := by
 have I2 : Inv X pins σ H1 { s1 with heap := h', toks := t' } := I1.kept (t' := t') hk
 refine ⟨_, [s1.heap.objs.size + 1, s1.heap.objs.size], _, _, H1, rfl, I2, turn_enum l (s1.heap.objs.size + 1) s1.heap.objs.size n0 (Nat.ne_of_gt (Nat.lt_succ_self _)), ⟨⟨_, by simpa using he⟩, hi⟩, fun c hc => ?_, q⟩
 have hle : s1.heap.objs.size ≤ c := by
  simp only [List.mem_cons, List.not_mem_nil, or_false] at hc
  rcases hc with rfl | rfl
  ·exact Nat.le_succ _
  ·exact Nat.le_refl _
 obtain ⟨f0, f1, f2, f3, f4, f5⟩ := I1.fpOk hle (I1.hok.fresh hle)
 exact ⟨f0, f1, f2, f3, f4, f5⟩
theorem pi_enum {X : Cx} {elts : List Expr} {x1 : Nat} {tpos : Pos} {a : Expr} {ta : TA} {p pos : Pos} (hg : Gl X "enumerate") (hm : X.mg "enumerate" = none) (ha : PA X [a] ta) (hs : autoParam (starEach [a] X.env = [(false, eval a X.env)]) Ax4._auto_1) :
  PI X (.Tuple elts x1 tpos) (.Call (.Name "enumerate" p) [a] [] pos) (iEnum X.K 0 ta) := by
 intro pins s σ H R I h
 refine Call_ (ld_blt I hg hm boot_enum (PyProof.Rows.callWith_type1 (thn (ha pos pins s σ H _ I h) fun us s1 ⟨vs, H1, I1, r1, q1⟩ => ?_) (by rw [hs]; rfl) (by rfl)))
 obtain ⟨l, e, ⟨xs, hq⟩, q⟩ := q1
 subst e
 cases r1 with
 | cons r rr =>
  cases rr
  cases r
  obtain ⟨its, rv, p1, _⟩ := I1.list hq
  refine call_enumerate_list p1.isList fun h' he hi hsz hk => ?_
  refine wpAny_pyIter_enum (s := { s1 with heap := h' }) he ?_
  exact enum_end (t' := s1.toks) (n0 := 0) I1 he hi hk q
end L2
namespace DD
open PySem PySem.Spec PyProof.Rows L2
noncomputable def enD : Nat → List D → List D
 | _, [] => []
 | n, x :: xs => .tup [.int (n : Int), x] :: enD (n + 1) xs
theorem enD_len : ∀ (xs : List D) (n : Nat), (enD n xs).length = xs.length
 | [], _ => rfl
 | _ :: xs, n => by simp [enD, enD_len xs]
theorem enD_get : ∀ (xs : List D) (n i : Nat), (enD n xs)[i]? = (xs[i]?).map fun x => .tup [.int ((n + i : Nat) : Int), x]
 | [], _, _ => by simp [enD]
 | _ :: xs, n, 0 => by simp [enD]
 | _ :: xs, n, i + 1 => by simp only [enD, List.getElem?_cons_succ, enD_get xs]; rw [show n + 1 + i = n + (i + 1) by omega]
noncomputable def iEnD (n0 : Nat) (c : DE) : DI := fun σ => (c σ).bind fun p => match p.1 with
 | .lst _ xs => some (enD n0 (D.fzL xs), p.2)
 | _ => none
theorem itd_enum {K : PySem.W.Frag} {F : Addr → Prop} {H : Hp} {xs : List D} {a : Addr} {vs : List V} {n0 : Nat} (fl : FL K F H a vs) (ol : OwL K F H xs vs []) :
  ItD K (Ite K a n0) (enD n0 xs) F H where
 item := fun i d F1 H1 x1 dm e => by
  rw [enD_get] at e
  rcases hz : xs[i]? with _ | x
  ·rw [hz] at e; cases e
  ·rw [hz] at e; cases e
   obtain ⟨u, La, Lx, Lb, e1, eL, o1, _⟩ := ol.kid hz
   have eLx : Lx = [] := (List.append_eq_nil_iff.mp (List.append_eq_nil_iff.mp eL.symm).1).2
   subst eLx
   refine ⟨⟨vs, u, (fl.ext x1).sq, e1⟩, fun v H2 ⟨p, u', h1, hp, hH, hv⟩ => ?_⟩
   subst hH hv
   have h1' := h1 vs (fl.ext x1).sq
   rw [e1] at h1'; cases h1'
   have gr := grow_tup (us := [.int ((n0 + i : Nat) : Int), u]) dm hp
   refine ⟨_, gr, ?_⟩
   simp only [Ow, OwL]
   exact ⟨p, [.int ((n0 + i : Nat) : Int), u], rfl, .inl ⟨.inr rfl, upd_same⟩, .int ((n0 + i : Nat) : Int), [u], [], [], rfl, ⟨rfl, rfl⟩, ⟨u, [], [], [], rfl, (o1.mono x1 (fun a ha => by cases ha)).mono gr.x (fun a ha => by cases ha), ⟨rfl, rfl⟩, rfl⟩, rfl⟩
 done := fun F1 H1 x1 => ⟨vs, (fl.ext x1).sq, by rw [enD_len]; exact ol.length⟩
section
variable {X : Cx} {a b o e : Expr} {c c' : DE} {p p1 pos1 : Pos} {elts : List Expr} {x1 : Nat} {tpos pos : Pos}
theorem qi_enum (hgl : Gl X "enumerate") (hm : X.mg "enumerate" = none) (ha : QE X a c) (hs : autoParam (starEach [a] X.env = [(false, eval a X.env)]) Ax4._auto_1) :
  QI X (.Tuple elts x1 tpos) (.Call (.Name "enumerate" p1) [a] [] pos1) (iEnD 0 c) := PI_imp (pi_enum hgl hm (pa_cons ha pa_nil hs) hs) fun σ H R hq0 => by
 obtain ⟨F, Ro, σD, xs, σD', r, ec, k⟩ := hq0
 unfold iEnD at ec
 rcases h1 : c σD with _ | ⟨x, σ1⟩
 ·rw [h1] at ec; cases ec
 ·rw [h1] at ec; simp only [bind_some] at ec
  split at ec
  ·cases ec
   refine ⟨F, Ro, σD, _, _, r, h1, fun F1 H1 v x1 r1 => ?_⟩
   obtain ⟨F3, x3, r3, o3⟩ := r1.freeze
   simp only [D.fz, Ow] at o3
   obtain ⟨a1, vs, rfl, fl, ol, _⟩ := o3
   exact ⟨a1, rfl, ⟨vs, fl.sq⟩, k F3 H1 _ (x1.trans x3) r3.pop (itd_enum fl ol)⟩
  ·cases ec
end
end DD
namespace DD
open PySem PySem.Spec PyProof.Rows L2
section
variable {X : Cx} {elt tg iter : Expr} {ifs : List Expr} {g : DG} {t : DT} {c : DE} {pos : Pos} {W : List Nat} {scope : Scope} {k : Nat} {elts : List Expr} {x1 : Nat} {tpos p1 pos1 npos npos2 : Pos}
end
end DD
namespace L2
open PySem PySem.Spec PyProof.Rows
section
variable {prog : Program} {w : World} {A : Around} {E : Value → Shared → Prop} {s : Shared}
end
end L2
namespace DD
open PySem PySem.Spec PyProof.Rows L2
section
variable {X : Cx} {a b o e : Expr} {c c' : DE} {p p1 pos1 kp cp : Pos} {elts : List Expr} {x1 : Nat} {tpos pos : Pos} {kk : Nat}
end
section
variable {X : Cx} {elt : Expr} {ifs : List Expr} {g : DG} {t : DT} {c : DE} {pos : Pos} {W : List Nat} {scope : Scope} {k : Nat} {elts : List Expr} {x1 : Nat} {tpos p1 pos1 npos kp cp : Pos} {kk : Nat}
end
end DD
namespace L2
open PySem PySem.Spec PyProof.Rows
section
variable {prog : Program} {w : World} {A : Around} {E : Value → Shared → Prop} {s : Shared}
end
section
variable {X : Cx} {pos : Pos}
end
end L2
namespace DD
open PySem PySem.Spec PyProof.Rows L2
section
variable {X : Cx} {e tg a : Expr} {ts : List Expr} {g : DG} {gs : DGs} {pos p1 p2 pos2 : Pos} {W W' : List Nat} {c : DE} {apos cpos : Pos}
end
end DD
namespace DD
open PySem PySem.Spec PyProof.Rows L2
section
variable {X : Cx} {e o a b : Expr} {es : List Expr} {p q : DP} {c c' : DE} {pos apos cpos : Pos} {i : Nat} {js : List DP}
end
end DD
namespace L2
open PySem PySem.Spec PyProof.Rows
noncomputable def Itw (n : Nat) : It := ⟨fun i _ => i < n, fun i H x H' => H' = H ∧ x = .int (0 + (i : Int) * 2), fun i _ => n ≤ i⟩
theorem turn_two {P : Program} {w : World} {K : PySem.W.Frag} {tg : Expr} (it : Addr) (n : Nat) : Turn P w K tg (Itw n) [it] it (fun i h => IsRangeIter h it (0 + (i : Nat) * 2) ((n : Int) - (i : Nat)) 2) where
 mem := by simp
 obj := fun i h st b hb => by
  obtain rfl : b = it := by simpa using hb
  exact ⟨_, st, fun v z => nomatch (show Data.fields _ = Data.cell v from z)⟩
 keep := fun i h h' st k => k it (by simp) _ st
 item := by
  intro X hP hw hK hc i pins s σ H E I hf st hg
  subst hP hw hK
  obtain ⟨f0, f1, f2, f3, f4, f5⟩ := hf it (by simp)
  refine (Walks.range (prog := X.prog) (w := X.w) (I.ok.hd hc) it 0 2 n).item i s _ _ hg st fun v h' tk hv st' kk => ?_
  obtain ⟨t, rfl⟩ := hv
  have I1 : Inv X pins σ H { s with heap := h', toks := tk } := I.turned (fun b o hb e => kk b o (by simpa using hb) e) f0 f1 f3 f4 f5
  exact ⟨_, rfl, go_of (s := { s with heap := h', toks := tk }) (n := "range_iterator") st' rfl rfl (by decide) ⟨.int (0 + (i : Int) * 2), H, I1, ⟨t, rfl⟩, ⟨rfl, rfl⟩, st', fun b hb => (hf b hb).1⟩⟩
 done := by
  intro X hP hw hK hc i pins s σ H E I hf st hg
  subst hP hw hK
  obtain ⟨f0, f1, f2, f3, f4, f5⟩ := hf it (by simp)
  exact wpAny_pyNext_range_end (I.ok.hd hc) st (by have : n ≤ i := hg; omega) fun h' eb => ⟨rfl, I.turned (t' := s.toks) (fun b o hb e => eb b o hb e) f0 f1 f3 f4 f5⟩
 self := fun _ _ _ _ _ st h => wpAny_pyIter_rangeiter st h
theorem size_two {m : Nat} : Builtin.Range.rangeSize 0 (m : Int) 2 = (((m + 1) / 2 : Nat) : Int) := by
 unfold Builtin.Range.rangeSize
 simp only [show (2 : Int) > 0 by decide, if_true]
 split <;> omega
theorem small_two {m : Nat} (h : m ≤ 1000) : Builtin.Range.small 0 (m : Int) 2 = true := by
 have key : ∀ k : Fin 1001, Builtin.Range.small 0 (k.val : Int) 2 = true := by decide +kernel
 exact key ⟨m, by omega⟩
section
variable {X : Cx} {tg : Expr} {pos : Pos}
noncomputable def iTwo (ta : TA) : TI := fun σ H R => ta σ H fun vs H1 => ∃ m : Nat, vs = [.int 0, .int (m : Int), .int 2] ∧ m ≤ 1000 ∧ R (Itw ((m + 1) / 2)) H1
theorem call_two {prog : Program} {w : World} {A : Around} {E : Value → Shared → Prop} {s : Shared} {m : Nat} {t u v : Tok} {Q : Value → Shared → Prop} (hm : m ≤ 1000) (h : Q (.ref s.heap.objs.size) { s with heap := s.heap.push { cls := .type "range", data := .fields #[.int 0 t, .int (m : Int) u, .int 2 v] }, toks := s.toks }) :
  wpAny (model prog w) A (call (.type "range") [.int 0 t, .int (m : Int) u, .int 2 v]) Q E s := call_range_3 (by decide) h (Or.inl (PyProof.noPylong_small (by omega)))
theorem pi_two {a b c : Expr} {ta : TA} {p pos : Pos} (hg : Gl X "range") (hm : X.mg "range" = none) (ha : PA X [a, b, c] ta) (hs : autoParam (starEach [a, b, c] X.env = [(false, eval a X.env), (false, eval b X.env), (false, eval c X.env)]) Ax4._auto_1)
  (hs2 : autoParam (starEach [b, c] X.env = [(false, eval b X.env), (false, eval c X.env)]) Ax4._auto_1) : PI X tg (.Call (.Name "range" p) [a, b, c] [] pos) (iTwo ta) := by
 intro pins s σ H R I h
 refine Call_ (ld_blt I hg hm boot_range (PyProof.Rows.callWith_type1 (thn (ha pos pins s σ H _ I h) fun us s1 hq0 => ?_) (by rw [hs, hs2]) (by rw [hs2]; rfl)))
 obtain ⟨vs, H1, I1, r1, m, e, hm', q⟩ := hq0
 subst e
 obtain ⟨u1, us1, rfl, ru1, r2⟩ : ∃ u us', us = u :: us' ∧ RelV (.int 0) u ∧ Vals [.int (m : Int), .int 2] us' := by cases r1 with | cons r rr => exact ⟨_, _, rfl, r, rr⟩
 obtain ⟨u2, us2, rfl, ru2, r3⟩ : ∃ u us', us1 = u :: us' ∧ RelV (.int (m : Int)) u ∧ Vals [.int 2] us' := by cases r2 with | cons r rr => exact ⟨_, _, rfl, r, rr⟩
 obtain ⟨u3, us3, rfl, ru3, r4⟩ : ∃ u us', us2 = u :: us' ∧ RelV (.int 2) u ∧ Vals [] us' := by cases r3 with | cons r rr => exact ⟨_, _, rfl, r, rr⟩
 cases r4
 obtain ⟨t1, rfl⟩ := ru1
 obtain ⟨t2, rfl⟩ := ru2
 obtain ⟨t3, rfl⟩ := ru3
 refine call_two hm' ?_
 refine wpAny_pyIter_range (IsRange.new ..) (small_two hm') ?_
 have I2 : Inv X pins σ H1 { s1 with heap := s1.heap.push { cls := .type "range", data := .fields #[.int 0 t1, .int (m : Int) t2, .int 2 t3] }, toks := s1.toks } := I1.kept fun b o e => Heap.get?_push_of_some _ e
 refine ⟨(s1.heap.push { cls := .type "range", data := .fields #[.int 0 t1, .int (m : Int) t2, .int 2 t3] }).objs.size, [(s1.heap.push { cls := .type "range", data := .fields #[.int 0 t1, .int (m : Int) t2, .int 2 t3] }).objs.size], _, _, H1, rfl, I2.kept (t' := s1.toks) fun b o e => Heap.get?_push_of_some _ e, turn_two _ ((m + 1) / 2), ?_, fun b hb => ?_, q⟩
 ·have e1 : (0 : Int) + ((0 : Nat) : Int) * 2 = 0 := by simp
  have e2 : ((((m + 1) / 2 : Nat)) : Int) - ((0 : Nat) : Int) = Builtin.Range.rangeSize 0 (m : Int) 2 := by rw [size_two]; omega
  show IsRangeIter _ _ ((0 : Int) + ((0 : Nat) : Int) * 2) (((((m + 1) / 2 : Nat)) : Int) - ((0 : Nat) : Int)) 2
  rw [e1, e2]
  exact Heap.get?_push_size _ rfl
 ·obtain rfl : b = (s1.heap.push { cls := .type "range", data := .fields #[.int 0 t1, .int (m : Int) t2, .int 2 t3] }).objs.size := by simpa using hb
  exact I2.fpOk (Nat.le_refl _) (I2.hok.fresh (Nat.le_refl _))
end
end L2
namespace DD
open PySem PySem.Spec PyProof.Rows L2
noncomputable def twoD (m : Nat) : List D := (List.range ((m + 1) / 2)).map fun (k : Nat) => D.int (0 + (k : Int) * 2)
theorem itd_two {K : PySem.W.Frag} {F : Addr → Prop} {H : Hp} {m : Nat} : ItD K (Itw ((m + 1) / 2)) (twoD m) F H where
 item := fun i d F1 H1 _ dm e => by
  unfold twoD at e
  rw [List.getElem?_map] at e
  rcases hk : (List.range ((m + 1) / 2))[i]? with _ | j
  ·rw [hk] at e; cases e
  ·rw [hk] at e
   cases e
   have hl := (List.getElem?_eq_some_iff.mp hk).1
   have hj := (List.getElem?_eq_some_iff.mp hk).2
   simp only [List.length_range] at hl
   simp only [List.getElem_range] at hj
   subst hj
   refine ⟨hl, fun x H2 hq0 => ?_⟩
   obtain ⟨e2, hx⟩ := hq0
   subst e2 hx
   exact ⟨F1, Grow.refl, Ow.of_sc rfl⟩
 done := fun F1 H1 _ => by simp [twoD, Itw]
noncomputable def iTwD (c : DA) : DI := fun σ => (c σ).bind fun p => match p.1 with
 | [.int i, .int j, .int k] => if decide (i = 0 ∧ k = 2 ∧ 0 ≤ j ∧ j ≤ 1000) = true then some (twoD j.toNat, p.2) else none
 | _ => none
section
variable {X : Cx} {tg e a b c : Expr} {ca : DA} {p1 pos1 : Pos}
theorem qi_two (hgl : Gl X "range") (hm : X.mg "range" = none) (ha : QA X [a, b, c] ca) (hs : autoParam (starEach [a, b, c] X.env = [(false, eval a X.env), (false, eval b X.env), (false, eval c X.env)]) Ax4._auto_1) (hs2 : autoParam (starEach [b, c] X.env = [(false, eval b X.env), (false, eval c X.env)]) Ax4._auto_1) :
  QI X tg (.Call (.Name "range" p1) [a, b, c] [] pos1) (iTwD ca) := PI_imp (pi_two hgl hm ha hs hs2) fun σ H R hq0 => by
 obtain ⟨F, Ro, σD, xs, σD', r, ec, k⟩ := hq0
 unfold iTwD at ec
 rcases h : ca σD with _ | ⟨ys, σ1⟩
 ·rw [h] at ec; cases ec
 ·rw [h] at ec; simp only [bind_some] at ec
  refine ⟨F, Ro, σD, ys, σ1, r, h, fun F1 H1 vs x1 hl r1 => ?_⟩
  split at ec
  ·rename_i i j k'
   split at ec
   ·rename_i hj
    simp only [decide_eq_true_eq] at hj
    obtain ⟨rfl, rfl, hj⟩ := hj
    cases ec
    match vs, hl with
    | [v, u, w], _ =>
     have hv : v = .int 0 := (r1.bor (d := .int 0) (v := v) (by simp)).int
     have hu : u = .int j := (r1.bor (d := .int j) (v := u) (by simp)).int
     have hw : w = .int 2 := (r1.bor (d := .int 2) (v := w) (by simp)).int
     subst hv; subst hu; subst hw
     exact ⟨j.toNat, by rw [Int.toNat_of_nonneg hj.1], by omega, k F1 H1 _ x1 (r1.popN (S := [(D.int 0, V.int 0), (D.int j, V.int j), (D.int 2, V.int 2)])) itd_two⟩
   ·cases ec
  ·cases ec
end
end DD
namespace L2
open PySem PySem.Spec PyProof.Rows
section
variable {X : Cx} {pos : Pos}
end
end L2
namespace DD
open PySem PySem.Spec PyProof.Rows L2
section
variable {X : Cx} {a b c : Expr} {ca : DA} {p1 p2 pos pos2 : Pos}
end
end DD
namespace L2
open PySem PySem.Spec PyProof.Rows
section
variable {X : Cx} {e st : Expr} {te ts : TE} {pos p2 : Pos}
end
end L2
namespace DD
open PySem PySem.Spec PyProof.Rows L2
section
variable {X : Cx} {e st : Expr} {p q : DP} {pos p2 : Pos}
end
end DD
namespace PySem
open Sem (wp)
namespace F
end F
section
variable {prog : Program} {w : World} {A : Around} {E : Value → Shared → Prop} {s : Shared}
end
section
variable {prog : Program} {w : World} {A : Around} {E : Value → Shared → Prop} {s : Shared}
end
end PySem
namespace L2
open PySem PySem.Spec PyProof.Rows
end L2
namespace DD
open PySem PySem.Spec PyProof.Rows L2
theorem fzL_len : ∀ xs : List D, (D.fzL xs).length = xs.length := by
 intro xs
 induction xs with
 | nil => rfl
 | cons x xs ih => simp only [D.fzL, List.length_cons, ih]
section
variable {X : Cx} {a b c d : Expr} {ca cb cc cd : DE} {p1 pos1 : Pos} {elts : List Expr} {x1 : Nat} {tpos : Pos}
end
end DD
namespace PySem.AutoSeq1
theorem extend_any (l : Addr) (items : Array Value) (n : Nat) (b : Addr) (items2 : Array Value) (n2 : Nat) (sl : Array (Option Value)) (hc0 : ¬(!items.isEmpty && Builtin.List.listTooLong (items.size + items2.size)) = true) (hc1 : items.size ≤ sizeLine) (hs2 : items.size + items2.size ≤ sizeLine + 1) :
  Meets (Builtin.«list.extend» ⟨[.ref l, .ref b], []⟩) (fun _ R s => s.heap.get? l = some { cls := .type "list", dict := none, data := .seq items n, slots := #[] } ∧ s.heap.get? b = some { cls := .type "list", dict := none, data := .seq items2 n2, slots := sl } ∧ R (.ok (.ret Value.none)) { s with heap := s.heap.update l (Obj.mapSeq fun x => x ++ items2), toks := s.toks }) :=
 .of_wp fun prog w A R s h => by
  obtain ⟨hp, g, d, tk, os⟩ := s; obtain ⟨hl, hb, h⟩ := h; have f1 := idx_int; have f2 := sub_tuple_tuple; have f3 := sub_list_list; have f4 := sub_tuple_list; have f5 := sub_list_tuple;
  have hz' : (items ++ items2).size ≤ sizeLine + 1 := by rw [Array.size_append]; exact hs2
  wp_walk using (wpAny_updateSeq hl rfl (hz := hc1) (_hz' := hz')), wpAny_loadPart' hl, wpAny_loadPart' hb; exact ⟨_, rfl, h⟩
end PySem.AutoSeq1
namespace L2
open PySem PySem.Spec PyProof.Rows
section
variable {X : Cx}
noncomputable def rExtF (K : PySem.W.Frag) : V → List V → Hp → VK → Prop := fun x vs H Q => ∃ l b xs zs, x = .ref l ∧ vs = [.ref b] ∧ H l = some (.lst xs) ∧ SqL K H b zs ∧ xs.length + zs.length ≤ sizeLine ∧ Q .non (upd H l (.lst (xs ++ zs)))
theorem mt_extF : MtM X "list.extend" (rExtF X.K) := by
 intro pins s σ H x vs v us Q I rx rv h
 obtain ⟨l, b, xs, zs, rfl, rfl, hH, hB, hz, q⟩ := h
 cases rx
 obtain ⟨u, rfl, ru⟩ := rv.one
 cases ru
 obtain ⟨z, its, n, r, hl, e⟩ := I.lstM hH
 obtain ⟨its2, r2, pl, hz2⟩ := I.list hB
 obtain ⟨o, n2, e2, c2, d2, s2⟩ := pl
 obtain ⟨oc, od, odt, osl⟩ := o
 dsimp only at c2 d2 s2
 subst c2; subst d2; subst s2
 have hl2 := r2.length
 have hsz : its.toArray.size + its2.toArray.size ≤ sizeLine := by rw [List.size_toArray, List.size_toArray]; omega
 have hlong : ¬ (!its.toArray.isEmpty && Builtin.List.listTooLong (its.toArray.size + its2.toArray.size)) = true := by
  rw [notLongL hsz, Bool.and_false]
  exact Bool.false_ne_true
 refine call_meets F.slot_list_extend ⟨_, e, rfl⟩ F.entry_list_extend (F.args_list_extend_2 _ _)
  (PySem.AutoSeq1.extend_any l its.toArray n b its2.toArray n2 osl hlong (by rw [List.size_toArray]; omega) (by omega)) ⟨e, e2, ?_⟩
 refine ⟨.non, _, I.lset (its' := its ++ its2) hH e (by simp) (r.append r2) ?_, rfl, q⟩
 rw [List.length_append]
 omega
end
end L2
namespace DD
open PySem PySem.Spec PyProof.Rows L2
noncomputable def dExtF (i : Nat) (c : DE) : DE := fun σ => match dget σ i with
 | some (.lst _ _) => (c σ).bind fun p => match p.1, dget p.2 i with
  | .lst _ ys, some (.lst true xs) => if xs.length + ys.length ≤ sizeLine then some (.non, p.2.set i (some (.lst true (xs ++ D.fzL ys)))) else none
  | _, _ => none
 | _ => none
section
variable {X : Cx} {e : Expr} {c : DE} {apos cpos : Pos}
theorem qe_extF (i : Nat) {x : Str} {npos : Pos} (he : QE X e c) (hN : autoParam (X.N[i]? = some x) Ax4._auto_1) (hv : autoParam (Vis X.env.scope x) Ax6._auto_1) (hd : autoParam ((x == ("__debug__" : Str)) = false) Ax1._auto_1)
  (hcd : autoParam ((x == ("__classdict__" : Str)) = false) Ax1._auto_1) (hbase : autoParam (attributeBase (.Name x npos) "extend" X.env (eval (.Name x npos) X.env) = eval (.Name x npos) X.env) Ax4._auto_1) (hfew : autoParam (((backTo cpos (starEach [e] X.env)).all (fun x => !x.1) && (backToKw cpos (keywordEach [] X.env)).all (fun x => x.1.isSome)
   && decide (([e] : List Expr).length + ([] : List Keyword).length + (if ([] : List Keyword).isEmpty then 0 else 1) < 30)) = true) Ax4._auto_1) (hline : autoParam ((apos.endLine == cpos.line) = true) Ax4._auto_1)
  (hst : autoParam (starEach [e] X.env = (false, eval e X.env) :: starEach [] X.env) Ax4._auto_1) : QE X (.Call (.Attribute (.Name x npos) "extend" apos) [e] [] cpos) (dExtF i c) :=
 PE_imp (pe_bm PySem.F.plainAttrs_list PySem.F.slot_list_extend PySem.F.type_list_extend mt_extF (pe_var hN hv hd hcd) (pa_cons he pa_nil hst) hbase hfew hline hst rfl) fun σ H Q hq0 => by
  obtain ⟨F, R, σD, d, σD', r, ec, k⟩ := hq0
  unfold dExtF at ec
  split at ec
  ·rename_i own ys0 h0
   obtain ⟨v0, hv0, b0⟩ := r.get (dget_some h0)
   obtain ⟨a0, vs0, rfl, sq0, _⟩ := b0.lst
   rcases h1 : c σD with _ | ⟨y, σ1⟩
   ·rw [h1] at ec; cases ec
   ·rw [h1] at ec; simp only [bind_some] at ec
    split at ec
    ·rename_i _ _ ow ys xs h2
     split at ec
     ·rename_i hz
      cases ec
      refine ⟨_, hv0, .inl ⟨rfl, vs0, sq0⟩, F, R, σD, _, σ1, r, h1, fun F1 H1 v x1 r1 => ?_⟩
      obtain ⟨F2, x2, rf, of⟩ := r1.freeze
      simp only [D.fz, Ow] at of
      obtain ⟨b, zs, rfl, fl, ol, _⟩ := of
      have hlb := ol.length
      have hlf := fzL_len ys
      have r1' := Rel.pushL ol rf.pop
      obtain ⟨v1, hv1, r2⟩ := r1'.take (dget_some h2)
      rw [hv0] at hv1; cases hv1
      obtain ⟨l, vs, lc, hl, hlen, upd'⟩ := Rel.listAt (S := (D.fzL ys).zip zs) (js := []) (xs := xs) r2 rfl
      cases lc
      obtain ⟨r3, x3⟩ := upd' (xs ++ D.fzL ys) (vs ++ zs) [] (by rw [List.zip_append hlen]; simp) (by simp [hlen, hlb])
      refine ⟨_, b, vs, zs, rfl, rfl, hl, fl.sq, by omega, ?_⟩
      have r4 := (Rel.put (R := R) r3 hv0)
      rw [List.set_set] at r4
      exact k F2 _ .non ((x1.trans x2).trans x3) (r4.scal rfl)
     ·cases ec
    ·cases ec
  ·cases ec
end
end DD
namespace TT
open PySem L2 DD
noncomputable abbrev Rl (α : Type) := α → D → Prop
structure Sl (S : Type) where
 {α : Type}
 get : S → α
 r : Rl α
noncomputable abbrev Shp (S : Type) := List (Option (Sl S))
section
variable {S : Type} {α β γ δ ρ : Type}
noncomputable def On : Option (Sl S) → S → Option D → Prop
 | none, _, _ => True
 | some l, s, o => ∃ d, o = some d ∧ l.r (l.get s) d
noncomputable def Sat : Shp S → S → DSt → Prop
 | [], _, [] => True
 | a :: Γ, s, x :: σ => On a s x ∧ Sat Γ s σ
 | _, _, _ => False
theorem Sat.len {s : S} : ∀ {Γ : Shp S} {σ : DSt}, Sat Γ s σ → σ.length = Γ.length := by
 intro Γ
 induction Γ with
 | nil =>
  intro σ h
  cases σ with
  | nil => rfl
  | cons _ _ => exact h.elim
 | cons a Γ ih =>
  intro σ h
  cases σ with
  | nil => exact h.elim
  | cons x σ => simp [ih h.2]
theorem Sat.get {s : S} {l : Sl S} : ∀ {Γ : Shp S} {σ : DSt} {i : Nat}, Sat Γ s σ → Γ[i]? = some (some l) → ∃ d, dget σ i = some d ∧ l.r (l.get s) d := by
 intro Γ
 induction Γ with
 | nil => intro σ i _ e; simp at e
 | cons a Γ ih =>
  intro σ i h e
  cases σ with
  | nil => exact h.elim
  | cons x σ =>
   cases i with
   | zero =>
    simp at e; subst e
    obtain ⟨d, e1, hd⟩ := h.1
    subst e1
    exact ⟨d, rfl, hd⟩
   | succ i =>
    obtain ⟨d, h1, h2⟩ := ih (i := i) h.2 (by simpa using e)
    exact ⟨d, by simpa [dget] using h1, h2⟩
theorem Sat.set {s : S} {l : Option (Sl S)} {o : Option D} : ∀ {Γ : Shp S} {σ : DSt} {i : Nat}, Sat Γ s σ → On l s o → Sat (Γ.set i l) s (σ.set i o) := by
 intro Γ
 induction Γ with
 | nil =>
  intro σ i h k
  cases σ with
  | nil => exact h
  | cons _ _ => exact h.elim
 | cons a Γ ih =>
  intro σ i h k
  cases σ with
  | nil => exact h.elim
  | cons x σ =>
   cases i with
   | zero => exact ⟨k, h.2⟩
   | succ i => exact ⟨h.1, ih h.2 k⟩
theorem Sat.setn {Γ : Shp S} {s : S} {σ : DSt} {i : Nat} {o : Option D} (h : Sat Γ s σ) : Sat (Γ.set i none) s (σ.set i o) := h.set trivial
theorem On.setn {s : S} : ∀ {Γ : Shp S} {σ : DSt} {i : Nat}, Sat Γ s σ → Sat (Γ.set i none) s σ := by
 intro Γ
 induction Γ with
 | nil => intro σ i h; exact h
 | cons a Γ ih =>
  intro σ i h
  cases σ with
  | nil => exact h.elim
  | cons x σ =>
   cases i with
   | zero => exact ⟨trivial, h.2⟩
   | succ i => exact ⟨h.1, ih h.2⟩
inductive Fr (u : S → S) : Shp S → Prop
 | nil : Fr u []
 | non {Γ} : Fr u Γ → Fr u (none :: Γ)
 | som {l : Sl S} {Γ} : (∀ s d, l.r (l.get s) d → l.r (l.get (u s)) d) → Fr u Γ → Fr u (some l :: Γ)
theorem Fr.sat {u : S → S} {s : S} : ∀ {Γ : Shp S} {σ : DSt}, Fr u Γ → Sat Γ s σ → Sat Γ (u s) σ := by
 intro Γ σ l
 induction l generalizing σ with
 | nil => intro h; cases σ <;> exact h
 | non l ih =>
  intro h
  cases σ with
  | nil => exact h.elim
  | cons x σ => exact ⟨trivial, ih h.2⟩
 | som f1 l ih =>
  intro h
  cases σ with
  | nil => exact h.elim
  | cons x σ =>
   obtain ⟨d, e, hd⟩ := h.1
   exact ⟨⟨d, e, f1 s d hd⟩, ih h.2⟩
class Wk (r r' : Rl α) : Prop where
 w : ∀ a d, r a d → r' a d
instance (priority := high) Wk.refl {r : Rl α} : Wk r r := ⟨fun _ _ h => h⟩
inductive Le : Shp S → Shp S → Prop
 | nil : Le [] []
 | non {a} {Γ Γ'} : Le Γ Γ' → Le (a :: Γ) (none :: Γ')
 | som {α : Type} {g : S → α} {r r' : Rl α} {Γ Γ'} : Wk r r' → Le Γ Γ' → Le (some ⟨g, r⟩ :: Γ) (some ⟨g, r'⟩ :: Γ')
theorem Le.sat {s : S} : ∀ {Γ Γ' : Shp S} {σ : DSt}, Le Γ Γ' → Sat Γ s σ → Sat Γ' s σ := by
 intro Γ Γ' σ l
 induction l generalizing σ with
 | nil => intro h; exact h
 | non l ih =>
  intro h
  cases σ with
  | nil => exact h.elim
  | cons x σ => exact ⟨trivial, ih h.2⟩
 | som w l ih =>
  intro h
  cases σ with
  | nil => exact h.elim
  | cons x σ =>
   obtain ⟨d, e, hd⟩ := h.1
   exact ⟨⟨d, e, w.w _ _ hd⟩, ih h.2⟩
theorem Le.refl : ∀ {Γ : Shp S}, Le Γ Γ
 | [] => .nil
 | none :: _ => .non Le.refl
 | some ⟨_, _⟩ :: _ => .som Wk.refl Le.refl
noncomputable def szC (n : Nat) : Bool := decide (n ≤ sizeLine)
noncomputable def ltC (n : Nat) : Bool := decide (n < sizeLine)
theorem szC_le {n : Nat} (h : szC n = true) : n ≤ sizeLine := of_decide_eq_true h
theorem ltC_lt {n : Nat} (h : ltC n = true) : n < sizeLine := of_decide_eq_true h
noncomputable def rI : Rl Int := fun i d => d = .int i
noncomputable def rB : Rl Bool := fun b d => d = .bl b
noncomputable def rS : Rl Str := fun x d => d = .str x
noncomputable def rN : Rl Unit := fun _ d => d = .non
noncomputable def rA : Rl Unit := fun _ _ => True
noncomputable def rTy (t : String) : Rl Unit := fun _ d => d = .ty t
inductive All2 (r : Rl α) : List α → List D → Prop
 | nil : All2 r [] []
 | cons {a d as ds} : r a d → All2 r as ds → All2 r (a :: as) (d :: ds)
noncomputable def rL (r : Rl α) : Rl (List α) := fun xs d => ∃ ds, d = .lst true ds ∧ All2 r xs ds
noncomputable def rM (r : Rl α) : Rl (List α) := fun xs d => ∃ o ds, d = .lst o ds ∧ All2 r xs ds
noncomputable def rT2 (r : Rl α) (q : Rl β) : Rl (α × β) := fun p d => ∃ x y, d = .tup [x, y] ∧ r p.1 x ∧ q p.2 y
noncomputable def rT3 (r : Rl α) (q : Rl β) (t : Rl γ) : Rl (α × β × γ) := fun p d => ∃ x y z, d = .tup [x, y, z] ∧ r p.1 x ∧ q p.2.1 y ∧ t p.2.2 z
noncomputable def rP : Rl PyData := fun p d => d.py = some p ∧ d.fz = d
theorem All2.len {r : Rl α} {as : List α} {ds : List D} (h : All2 r as ds) : as.length = ds.length := by
 induction h with
 | nil => rfl
 | cons _ _ ih => simp [ih]
theorem All2.mono {r r' : Rl α} (k : ∀ a d, r a d → r' a d) {as : List α} {ds : List D} (h : All2 r as ds) : All2 r' as ds := by
 induction h with
 | nil => exact .nil
 | cons a _ ih => exact .cons (k _ _ a) ih
theorem All2.get {r : Rl α} {as : List α} {ds : List D} {i : Nat} {a : α} (h : All2 r as ds) : as[i]? = some a → ∃ d, ds[i]? = some d ∧ r a d := by
 induction h generalizing i with
 | nil => intro e; simp at e
 | cons h0 _ ih =>
  intro e
  cases i with
  | zero => simp at e; subst e; exact ⟨_, rfl, h0⟩
  | succ i => simpa using ih (i := i) (by simpa using e)
theorem All2.append {r : Rl α} {as bs : List α} {ds es : List D} (h : All2 r as ds) (k : All2 r bs es) : All2 r (as ++ bs) (ds ++ es) := by
 induction h with
 | nil => exact k
 | cons h0 _ ih => exact .cons h0 ih
theorem All2.ofMap {r : Rl α} {f : β → α} {g : β → D} (k : ∀ b, r (f b) (g b)) : ∀ bs : List β, All2 r (bs.map f) (bs.map g)
 | [] => .nil
 | b :: bs => .cons (k b) (All2.ofMap k bs)
theorem rI_map : ∀ ns : List Int, All2 rI ns (ns.map D.int)
 | [] => .nil
 | _ :: ns => .cons rfl (rI_map ns)
class Fz (r : Rl α) (r' : outParam (Rl α)) : Prop where
 f : ∀ a d, r a d → r' a d.fz
theorem All2.fz {r r' : Rl α} (k : ∀ a d, r a d → r' a d.fz) {as : List α} {ds : List D} (h : All2 r as ds) : All2 r' as (D.fzL ds) := by
 induction h with
 | nil => exact .nil
 | cons a _ ih => exact .cons (k _ _ a) ih
instance : Fz rI rI := ⟨fun _ _ h => by cases h; rfl⟩
instance {r r' : Rl α} [k : Fz r r'] : Fz (rL r) (rM r') := ⟨fun _ _ ⟨ds, e, h⟩ => ⟨false, D.fzL ds, by rw [e, D.fz], h.fz k.f⟩⟩
instance {r r' : Rl α} [k : Fz r r'] : Fz (rM r) (rM r') := ⟨fun _ _ ⟨o, ds, e, h⟩ => ⟨false, D.fzL ds, by rw [e, D.fz], h.fz k.f⟩⟩
instance {r r' : Rl α} {q q' : Rl β} [k : Fz r r'] [l : Fz q q'] : Fz (rT2 r q) (rT2 r' q') := ⟨fun _ _ ⟨x, y, e, h1, h2⟩ => ⟨x.fz, y.fz, by rw [e]; simp only [D.fz, D.fzL], k.f _ _ h1, l.f _ _ h2⟩⟩
instance {r r' : Rl α} {q q' : Rl β} {t t' : Rl γ} [k : Fz r r'] [l : Fz q q'] [m : Fz t t'] : Fz (rT3 r q t) (rT3 r' q' t') := ⟨fun _ _ ⟨x, y, z, e, h1, h2, h3⟩ => ⟨x.fz, y.fz, z.fz, by rw [e]; simp only [D.fz, D.fzL], k.f _ _ h1, l.f _ _ h2, m.f _ _ h3⟩⟩
instance {r r' : Rl α} [k : Wk r r'] : Wk (rL r) (rL r') := ⟨fun _ _ ⟨ds, e, h⟩ => ⟨ds, e, h.mono k.w⟩⟩
instance {r r' : Rl α} [k : Wk r r'] : Wk (rL r) (rM r') := ⟨fun _ _ ⟨ds, e, h⟩ => ⟨true, ds, e, h.mono k.w⟩⟩
instance {r r' : Rl α} {q q' : Rl β} [k : Wk r r'] [l : Wk q q'] : Wk (rT2 r q) (rT2 r' q') := ⟨fun _ _ ⟨x, y, e, h1, h2⟩ => ⟨x, y, e, k.w _ _ h1, l.w _ _ h2⟩⟩
class Sc (r : Rl α) : Prop where
 s : ∀ a d, r a d → ∃ w, d.sc = some w
instance : Sc rI := ⟨fun _ _ h => by cases h; exact ⟨_, rfl⟩⟩
instance : Sc rB := ⟨fun _ _ h => by cases h; exact ⟨_, rfl⟩⟩
class Ns (r : Rl α) : Prop where
 s : ∀ a d, r a d → d.sc = none
instance {r : Rl α} : Ns (rL r) := ⟨fun _ _ hq0 => by obtain ⟨_, e, _⟩ := hq0; rw [e]; rfl⟩
instance {r : Rl α} : Ns (rM r) := ⟨fun _ _ hq0 => by obtain ⟨_, _, e, _⟩ := hq0; rw [e]; rfl⟩
instance {r : Rl α} {q : Rl β} : Ns (rT2 r q) := ⟨fun _ _ hq0 => by obtain ⟨_, _, e, _⟩ := hq0; rw [e]; rfl⟩
class Ls (r : Rl (List α)) (q : outParam (Rl α)) : Prop where
 l : ∀ xs d, r xs d → ∃ o ds, d = .lst o ds ∧ All2 q xs ds
instance {r : Rl α} : Ls (rL r) r := ⟨fun _ _ ⟨ds, e, h⟩ => ⟨true, ds, e, h⟩⟩
instance {r : Rl α} : Ls (rM r) r := ⟨fun _ _ ⟨o, ds, e, h⟩ => ⟨o, ds, e, h⟩⟩
end
end TT
namespace TT
open PySem L2 DD
section
variable {S : Type} {α β γ δ ρ : Type} {Γ Γ1 Γ2 Γ3 Γ' Γn : Shp S}
inductive TR (S ρ : Type) where
 | nx (s : S) | rt (v : ρ) (s : S) | bk (s : S) | ct (s : S)
noncomputable def JP (Γ : Shp S) (p : DP) (f : S → Option α) (r : Rl α) : Prop := ∀ s σ v, Sat Γ s σ → f s = some v → ∃ d, p σ = some d ∧ r v d
noncomputable def JE (Γ : Shp S) (c : DE) (f : S → Option (α × S)) (r : Rl α) (Γ' : Shp S) : Prop := ∀ s σ v s', Sat Γ s σ → f s = some (v, s') → ∃ d σ', c σ = some (d, σ') ∧ r v d ∧ Sat Γ' s' σ'
noncomputable def JT (Γ : Shp S) (t : DT) (f : S → Option (Bool × S)) (Γ' : Shp S) : Prop := ∀ s σ b s', Sat Γ s σ → f s = some (b, s') → ∃ σ', t σ = some (b, σ') ∧ Sat Γ' s' σ'
noncomputable def JL (Γ : Shp S) (c : DA) (f : S → Option (List α × S)) (r : Rl α) (Γ' : Shp S) : Prop := ∀ s σ v s', Sat Γ s σ → f s = some (v, s') → ∃ ds σ', c σ = some (ds, σ') ∧ All2 r v ds ∧ Sat Γ' s' σ'
noncomputable def JI (Γ : Shp S) (c : DI) (f : S → Option (List α × S)) (r : Rl α) (Γ' : Shp S) : Prop := ∀ s σ v s', Sat Γ s σ → f s = some (v, s') → ∃ ds σ', c σ = some (ds, σ') ∧ All2 r v ds ∧ Sat Γ' s' σ'
noncomputable def JG (Γ : Shp S) (g : DG) (put : S → α → S) (r : Rl α) (Γ' : Shp S) : Prop := ∀ s σ v d, Sat Γ s σ → r v d → ∃ σ', g d σ = some σ' ∧ Sat Γ' (put s v) σ'
structure Ex (S ρ : Type) where
 rt : Shp S
 ro : Rl ρ
 lp : Shp S
noncomputable def Rs (Γn : Shp S) (E : Ex S ρ) : TR S ρ → Out → Prop
 | .nx s, .nx σ => Sat Γn s σ
 | .rt v s, .rt d σ => E.ro v d ∧ Sat E.rt s σ
 | .bk s, .bk σ => Sat E.lp s σ
 | .ct s, .ct σ => Sat E.lp s σ
 | _, _ => False
noncomputable def JS (Γ : Shp S) (c : DS) (f : S → Option (TR S ρ)) (Γn : Shp S) (E : Ex S ρ) : Prop := ∀ s σ t, Sat Γ s σ → f s = some t → ∃ o, c σ = some o ∧ Rs Γn E t o
theorem bd {α β : Type} {o : Option α} {f : α → Option β} {b : β} (h : o.bind f = some b) : ∃ a, o = some a ∧ f a = some b := by
 cases o with
 | none => cases h
 | some a => exact ⟨a, rfl, h⟩
theorem mp {α β : Type} {o : Option α} {f : α → β} {b : β} (h : o.map f = some b) : ∃ a, o = some a ∧ f a = b := by
 cases o with
 | none => cases h
 | some a => exact ⟨a, rfl, Option.some.inj h⟩
theorem jp_v (i : Nat) {get : S → α} {r : Rl α} (h : Γ[i]? = some (some ⟨get, r⟩)) : JP Γ (pV i) (fun s => some (get s)) r := fun s σ v hs e => by
 obtain ⟨d, h1, h2⟩ := hs.get h
 cases e
 exact ⟨d, h1, h2⟩
theorem jp_c {d : D} (v : α) {r : Rl α} (h : r v d) : JP Γ (pC d) (fun _ => some v) r := fun s σ w hs e => by cases e; exact ⟨d, rfl, h⟩
theorem jp_i (i : Int) : JP Γ (pC (.int i)) (fun _ => some i) rI := jp_c i rfl
theorem jp_b (i : Bool) : JP Γ (pC (.bl i)) (fun _ => some i) rB := jp_c i rfl
theorem jp_ty (t : String) : JP Γ (pC (.ty t)) (fun _ => some ()) (rTy t) := jp_c () rfl
noncomputable def JO (g : D → D → Option D) (h : α → β → Option γ) (ra : Rl α) (rb : Rl β) (rc : Rl γ) : Prop := ∀ a b c x y, h a b = some c → ra a x → rb b y → ∃ z, g x y = some z ∧ rc c z
theorem jp_op {g : D → D → Option D} {h : α → β → Option γ} {ra : Rl α} {rb : Rl β} {rc : Rl γ} {p q : DP} {f1 : S → Option α} {f2 : S → Option β} (o : JO g h ra rb rc) (h1 : JP Γ p f1 ra) (h2 : JP Γ q f2 rb) :
  JP Γ (pOp g p q) (fun s => (f1 s).bind fun a => (f2 s).bind fun b => h a b) rc := fun s σ v hs e => by
 obtain ⟨a, e1, e⟩ := bd e
 obtain ⟨b, e2, e⟩ := bd e
 obtain ⟨x, hx, rx⟩ := h1 s σ a hs e1
 obtain ⟨y, hy, ry⟩ := h2 s σ b hs e2
 obtain ⟨z, hz, rz⟩ := o a b v x y e rx ry
 exact ⟨z, by simp only [pOp, hx, hy, bind_some, hz], rz⟩
theorem jo_I0 {f : Int → Int → Int} : JO (gI0 f) (fun a b => some (f a b)) rI rI rI := fun a b c x y e h1 h2 => by cases h1; cases h2; cases e; exact ⟨_, rfl, rfl⟩
theorem jo_I {C : Int → Int → Bool} {f : Int → Int → Int} : JO (gI C f) (fun a b => if C a b = true then some (f a b) else none) rI rI rI := fun a b c x y e h1 h2 => by
 cases h1; cases h2
 dsimp only at e
 split at e
 ·rename_i h; cases e; exact ⟨_, if_pos h, rfl⟩
 ·cases e
noncomputable def mulN (i j : Int) : Bool := Nat.ble i.natAbs 9223372036854775808 || Nat.ble j.natAbs 9223372036854775808
theorem mulN_ok {i j : Int} (h : mulN i j = true) : mulC i j = true := by
 simp only [mulN, Bool.or_eq_true, Nat.ble_eq] at h
 simp only [mulC, decide_eq_true_eq]
 omega
theorem jo_mul : JO gMul (fun a b => if mulN a b = true then some (a * b) else none) rI rI rI := fun a b c x y e h1 h2 => by
 cases h1; cases h2
 dsimp only at e
 split at e
 ·rename_i h; cases e; exact ⟨_, if_pos (mulN_ok h), rfl⟩
 ·cases e
noncomputable def rokC (i : Int) : Bool := Nat.ble i.natAbs 1000000000
theorem rokC_ok {i : Int} (h : rokC i = true) : rOk i = true := by
 simp only [rokC, Nat.ble_eq] at h
 simp only [rOk, decide_eq_true_eq]
 omega
theorem jo_B0 {f : Int → Int → Bool} : JO (gB0 f) (fun a b => some (f a b)) rI rI rB := fun a b c x y e h1 h2 => by cases h1; cases h2; cases e; exact ⟨_, rfl, rfl⟩
theorem jp_neg {p : DP} {f : S → Option Int} (h : JP Γ p f rI) : JP Γ (pNeg p) (fun s => (f s).map fun a => -a) rI := fun s σ v hs e => by
 obtain ⟨a, e1, e2⟩ := mp e
 obtain ⟨x, hx, rx⟩ := h s σ a hs e1
 cases rx; cases e2
 exact ⟨_, by simp only [pNeg, hx, bind_some, gNeg], rfl⟩
class Py {α : Type} (r : Rl α) where
 pe : α → PyData
 ok : α → Bool
 k : Nat
 py : ∀ a d, r a d → d.py = some (pe a)
 lay : ∀ a, ok a = true → (pe a).canLay0 = true
 dep : ∀ a, ok a = true → (pe a).depth ≤ k
class EqR {α β : Type} (r : Rl α) (q : Rl β) [Py r] [Py q] (f : outParam (α → β → Bool)) : Prop where
 eqv : ∀ a b, PyData.eqv (Py.pe r a) (Py.pe q b) = f a b
instance : Py rI := ⟨PyData.int, fun _ => true, 0, fun _ _ h => by cases h; rfl, fun _ _ => rfl, fun _ _ => Nat.le_refl _⟩
theorem pyL_of {r : Rl α} [k : Py r] : ∀ {as : List α} {ds : List D}, All2 r as ds → D.pyL ds = some (as.map (Py.pe r)) := by
 intro as ds h
 induction h with
 | nil => rfl
 | cons h t ih => simp only [D.pyL, k.py _ _ h, ih, bind_some, map_some, List.map_cons]
theorem layL_of {r : Rl α} [k : Py r] : ∀ {as : List α}, as.all (Py.ok r) = true → PyData.canLayAll0 (as.map (Py.pe r)) = true
 | [], _ => rfl
 | a :: as, h => by
  simp only [List.all_cons, Bool.and_eq_true] at h
  simp only [List.map_cons, PyData.canLayAll0, k.lay _ h.1, layL_of h.2, Bool.and_self]
theorem depL_of {r : Rl α} [k : Py r] : ∀ {as : List α}, as.all (Py.ok r) = true → PyData.depthAll (as.map (Py.pe r)) ≤ Py.k r
 | [], _ => Nat.zero_le _
 | a :: as, h => by
  simp only [List.all_cons, Bool.and_eq_true] at h
  simp only [List.map_cons, PyData.depthAll]; exact Nat.max_le.mpr ⟨k.dep a h.1, depL_of h.2⟩
instance {r : Rl (List α)} {q : Rl α} [l : Ls r q] [k : Py q] : Py r := ⟨fun as => .list (as.map (Py.pe q)), fun as => as.all (Py.ok q), Py.k q + 1,
 fun a d h => by obtain ⟨o, ds, e, h⟩ := l.l a d h; rw [e]; simp only [D.py, pyL_of h, map_some], fun a h => by simp only [PyData.canLay0]; exact layL_of h, fun a h => by simp only [PyData.depth]; have := depL_of (r := q) (as := a) h; omega⟩
noncomputable def eqL (f : α → β → Bool) : List α → List β → Bool
 | [], [] => true
 | a :: as, b :: bs => f a b && eqL f as bs
 | _, _ => false
instance : EqR rI rI (fun a b => a == b) := ⟨fun a b => by simp only [Py.pe, PyData.eqv]⟩
theorem eqvL {r : Rl α} {q : Rl β} [Py r] [Py q] {f : α → β → Bool} [k : EqR r q f] : ∀ {as : List α} {bs : List β}, PyData.eqvAll (as.map (Py.pe r)) (bs.map (Py.pe q)) = eqL f as bs
 | [], [] => rfl
 | [], _ :: _ => rfl
 | _ :: _, [] => rfl
 | a :: as, b :: bs => by simp only [List.map_cons, PyData.eqvAll, eqL, k.eqv a b, eqvL]
instance {r : Rl (List α)} {q : Rl (List β)} {r' : Rl α} {q' : Rl β} [Ls r r'] [Ls q q'] [Py r'] [Py q'] {f : α → β → Bool} [k : EqR r' q' f] : EqR r q (eqL f) := ⟨fun a b => by simp only [Py.pe, PyData.eqv]; exact eqvL⟩
theorem py_ok {r : Rl α} {q : Rl β} [kr : Py r] [kq : Py q] {a : α} {b : β} (h : (Py.ok r a && Py.ok q b && decide (min (Py.k r) (Py.k q) ≤ 50)) = true) : pyOk (Py.pe r a) (Py.pe q b) = true := by
 simp only [Bool.and_eq_true, decide_eq_true_eq] at h
 simp only [pyOk, kr.lay _ h.1.1, kq.lay _ h.1.2, Bool.and_self, Bool.true_and, decide_eq_true_eq]
 have h1 := kr.dep a h.1.1
 have h2 := kq.dep b h.1.2
 omega
theorem jo_eq {r : Rl α} {q : Rl β} [kr : Py r] [kq : Py q] {f : α → β → Bool} [k : EqR r q f] : JO gEq (fun a b => if (Py.ok r a && Py.ok q b && decide (min (Py.k r) (Py.k q) ≤ 50)) = true then some (f a b) else none) r q rB := fun a b c x y e h1 h2 => by
 dsimp only at e
 split at e
 ·rename_i h
  cases e
  exact ⟨_, by simp only [gEq, kr.py _ _ h1, kq.py _ _ h2, bind_some, py_ok h, if_true, k.eqv], rfl⟩
 ·cases e
theorem jo_ne {r : Rl α} {q : Rl β} [kr : Py r] [kq : Py q] {f : α → β → Bool} [k : EqR r q f] : JO gNe (fun a b => if (Py.ok r a && Py.ok q b && decide (min (Py.k r) (Py.k q) ≤ 50)) = true then some (!f a b) else none) r q rB := fun a b c x y e h1 h2 => by
 dsimp only at e
 split at e
 ·rename_i h
  cases e
  exact ⟨_, by simp only [gNe, kr.py _ _ h1, kq.py _ _ h2, bind_some, py_ok h, if_true, k.eqv], rfl⟩
 ·cases e
theorem All2.at {r : Rl α} {as : List α} {ds : List D} {i : Int} {a : α} (h : All2 r as ds) (e : atI as i = some a) : ∃ d, atI ds i = some d ∧ r a d := by
 unfold atI at e ⊢
 rw [← h.len]
 obtain ⟨j, e1, e2⟩ := bd e
 obtain ⟨d, h1, h2⟩ := h.get e2
 exact ⟨d, by rw [e1]; exact h1, h2⟩
theorem jo_ix {r : Rl (List α)} {q : Rl α} [l : Ls r q] : JO ixD (fun (xs : List α) i => atI xs i) r rI q := fun a b c x y e h1 h2 => by
 obtain ⟨o, ds, e1, h⟩ := l.l a x h1
 cases h2; subst e1
 exact h.at e
noncomputable def Tix (r : Rl α) (k : Int) (π : α → β) (q : Rl β) : Prop := ∀ a d, r a d → ∃ x, ixD d (.int k) = some x ∧ q (π a) x
theorem tix20 {r : Rl α} {q : Rl β} : Tix (rT2 r q) 0 (fun p => p.1) r := fun _ _ ⟨x, _, e, h, _⟩ => ⟨x, by rw [e]; rfl, h⟩
theorem tix21 {r : Rl α} {q : Rl β} : Tix (rT2 r q) 1 (fun p => p.2) q := fun _ _ ⟨_, y, e, _, h⟩ => ⟨y, by rw [e]; rfl, h⟩
theorem jp_tix {r : Rl α} {q : Rl β} {k : Int} {π : α → β} {p : DP} {f : S → Option α} (t : Tix r k π q) (h : JP Γ p f r) : JP Γ (pOp ixD p (pC (.int k))) (fun s => (f s).map π) q := fun s σ v hs e => by
 obtain ⟨a, e1, e2⟩ := mp e
 obtain ⟨x, hx, rx⟩ := h s σ a hs e1
 obtain ⟨y, hy, ry⟩ := t a x rx
 cases e2
 exact ⟨y, by simp only [pOp, hx, pC, bind_some, hy], ry⟩
noncomputable def JB1 (g : List D → Option D) (h : α → Option γ) (ra : Rl α) (rc : Rl γ) : Prop := ∀ a c x, h a = some c → ra a x → ∃ z, g [x] = some z ∧ rc c z
noncomputable def JB2 (g : List D → Option D) (h : α → β → Option γ) (ra : Rl α) (rb : Rl β) (rc : Rl γ) : Prop := ∀ a b c x y, h a b = some c → ra a x → rb b y → ∃ z, g [x, y] = some z ∧ rc c z
theorem jp_b1 {g : List D → Option D} {h : α → Option γ} {ra : Rl α} {rc : Rl γ} {p : DP} {f : S → Option α} (o : JB1 g h ra rc) (h1 : JP Γ p f ra) : JP Γ (pCall g [p]) (fun s => (f s).bind h) rc := fun s σ v hs e => by
 obtain ⟨a, e1, e⟩ := bd e
 obtain ⟨x, hx, rx⟩ := h1 s σ a hs e1
 obtain ⟨z, hz, rz⟩ := o a v x e rx
 exact ⟨z, by simp only [pCall, evB, hx, bind_some, map_some, hz], rz⟩
theorem jp_b2 {g : List D → Option D} {h : α → β → Option γ} {ra : Rl α} {rb : Rl β} {rc : Rl γ} {p q : DP} {f1 : S → Option α} {f2 : S → Option β} (o : JB2 g h ra rb rc) (h1 : JP Γ p f1 ra) (h2 : JP Γ q f2 rb) : JP Γ (pCall g [p, q]) (fun s => (f1 s).bind fun a => (f2 s).bind fun b => h a b) rc := fun s σ v hs e => by
 obtain ⟨a, e1, e⟩ := bd e
 obtain ⟨b, e2, e⟩ := bd e
 obtain ⟨x, hx, rx⟩ := h1 s σ a hs e1
 obtain ⟨y, hy, ry⟩ := h2 s σ b hs e2
 obtain ⟨z, hz, rz⟩ := o a b v x y e rx ry
 exact ⟨z, by simp only [pCall, evB, hx, hy, bind_some, map_some, hz], rz⟩
theorem jb_len {r : Rl (List α)} {q : Rl α} [l : Ls r q] : JB1 lenD (fun xs : List α => some (xs.length : Int)) r rI := fun a c x e h => by
 obtain ⟨o, ds, e1, hh⟩ := l.l a x h
 cases e; subst e1
 exact ⟨_, rfl, by rw [hh.len]; rfl⟩
theorem jb_len2 {r : Rl α} {q : Rl β} : JB1 lenD (fun _ : α × β => some (2 : Int)) (rT2 r q) rI := fun a c x e hq0 => by obtain ⟨_, _, h, _⟩ := hq0; cases e; rw [h]; exact ⟨_, rfl, rfl⟩
theorem jb_abs : JB1 absD (fun i : Int => some (if i < 0 then -i else i)) rI rI := fun a c x e h => by cases h; cases e; exact ⟨_, rfl, rfl⟩
theorem jb_max : JB2 max2D (fun i j : Int => some (if j > i then j else i)) rI rI rI := fun a b c x y e h k => by cases h; cases k; cases e; exact ⟨_, rfl, rfl⟩
theorem jb_min : JB2 min2D (fun i j : Int => some (if j < i then j else i)) rI rI rI := fun a b c x y e h k => by cases h; cases k; cases e; exact ⟨_, rfl, rfl⟩
theorem ints_ok : ∀ {as : List Int} {ds : List D}, All2 rI as ds → intsOf ds = some as
 | _, _, .nil => rfl
 | _, _, .cons h t => by cases h; simp only [intsOf, ints_ok t, map_some]
theorem jb_sum {r : Rl (List Int)} [l : Ls r rI] : JB1 sumD (fun xs : List Int => some xs.sum) r rI := fun a c x e h => by
 obtain ⟨o, ds, e1, hh⟩ := l.l a x h
 cases e; subst e1
 exact ⟨_, by simp only [sumD, ints_ok hh, map_some], rfl⟩
class Kd (r : Rl α) (k : outParam String) : Prop where
 k : ∀ a d t, r a d → isiD [d, .ty t] = (isiT k t).map .bl
instance {r : Rl (List α)} {q : Rl α} [l : Ls r q] : Kd r "list" := ⟨fun a d _ h => by obtain ⟨o, ds, e1, h⟩ := l.l a d h; rw [e1]; rfl⟩
instance {r : Rl α} {q : Rl β} : Kd (rT2 r q) "tuple" := ⟨fun _ _ _ hq0 => by obtain ⟨_, _, h, _⟩ := hq0; rw [h]; rfl⟩
theorem jb_isi {r : Rl α} {k t : String} [n : Kd r k] : JB2 isiD (fun (_ : α) (_ : Unit) => isiT k t) r (rTy t) rB := fun a b c x y e h1 h2 => by
 cases h2
 dsimp only at e
 exact ⟨_, by rw [n.k a x t h1, e]; rfl, rfl⟩
end
end TT
namespace TT
open PySem L2 DD
section
variable {S : Type} {α β γ δ ρ : Type} {Γ Γ0 Γ1 Γ2 Γ3 Γ4 Γ' Γn Γh : Shp S} {c c' : DE} {t u : DT} {E : Ex S ρ}
theorem je_s {p : DP} {f : S → Option α} {r : Rl α} [k : Sc r] (h : JP Γ p f r) : JE Γ (dS p) (fun s => (f s).map fun a => (a, s)) r Γ := fun s σ v s' hs e => by
 obtain ⟨a, e1, e2⟩ := mp e
 cases e2
 obtain ⟨d, hd, rd⟩ := h s σ v hs e1
 obtain ⟨w, hw⟩ := k.s _ _ rd
 exact ⟨d, σ, by simp only [dS, hd, bind_some, hw], rd, hs⟩
theorem je_cp (i : Nat) {get : S → α} {r r' : Rl α} [k : Fz r r'] (h : Γ[i]? = some (some ⟨get, r⟩)) : JE Γ (dCp i) (fun s => some (get s, s)) r' (Γ.set i (some ⟨get, r'⟩)) := fun s σ v s' hs e => by
 obtain ⟨d, h1, h2⟩ := hs.get h
 cases e
 exact ⟨d.fz, _, by simp only [dCp, h1, map_some], k.f _ _ h2, hs.set ⟨_, rfl, k.f _ _ h2⟩⟩
theorem je_mv (i : Nat) {get : S → α} {r : Rl α} (h : Γ[i]? = some (some ⟨get, r⟩)) : JE Γ (dMv i) (fun s => some (get s, s)) r (Γ.set i none) := fun s σ v s' hs e => by
 obtain ⟨d, h1, h2⟩ := hs.get h
 cases e
 exact ⟨d, σ.set i none, by simp only [dMv, h1, map_some], h2, hs.setn⟩
theorem je_op {g : D → D → Option D} {h : α → β → Option γ} {ra : Rl α} {rb : Rl β} {rc : Rl γ} {f1 : S → Option (α × S)} {f2 : S → Option (β × S)} (o : JO g h ra rb rc) (h1 : JE Γ c f1 ra Γ1) (h2 : JE Γ1 c' f2 rb Γ2) :
  JE Γ (dOp g c c') (fun s => (f1 s).bind fun p => (f2 p.2).bind fun q => (h p.1 q.1).map fun v => (v, q.2)) rc Γ2 := fun s σ v s' hs e => by
 obtain ⟨⟨a, s1⟩, e1, e⟩ := bd e
 obtain ⟨⟨b, s2⟩, e2, e⟩ := bd e
 obtain ⟨w, e3, e⟩ := mp e
 cases e
 obtain ⟨x, σ1, hx, rx, k1⟩ := h1 s σ a s1 hs e1
 obtain ⟨y, σ2, hy, ry, k2⟩ := h2 s1 σ1 b s2 k1 e2
 obtain ⟨z, hz, rz⟩ := o a b v x y e3 rx ry
 exact ⟨z, σ2, by simp only [dOp, hx, hy, bind_some, hz, map_some], rz, k2⟩
theorem je_ix {r : Rl (List α)} {q : Rl α} [l : Ls r q] {f1 : S → Option (List α × S)} {f2 : S → Option (Int × S)} (h1 : JE Γ c f1 r Γ1) (h2 : JE Γ1 c' f2 rI Γ2) :
  JE Γ (dIx c c') (fun s => (f1 s).bind fun p => (f2 p.2).bind fun q => (atI p.1 q.1).map fun v => (v, q.2)) q Γ2 := je_op jo_ix h1 h2
theorem je_tix {r : Rl α} {q : Rl β} {k : Int} {π : α → β} {f : S → Option (α × S)} (t : Tix r k π q) (h : JE Γ c f r Γ1) : JE Γ (dIx c (dS (pC (.int k)))) (fun s => (f s).map fun p => (π p.1, p.2)) q Γ1 := fun s σ v s' hs e => by
 obtain ⟨⟨a, s1⟩, e1, e2⟩ := mp e
 obtain ⟨x, σ1, hx, rx, k1⟩ := h s σ a s1 hs e1
 obtain ⟨y, hy, ry⟩ := t a x rx
 cases e2
 exact ⟨y, σ1, by simp only [dIx, hx, dS, pC, bind_some, D.sc, hy, map_some], ry, k1⟩
theorem jl_nil {r : Rl α} : JL Γ aNil (fun s => some ([], s)) r Γ := fun s σ v s' hs e => by cases e; exact ⟨[], σ, rfl, .nil, hs⟩
theorem jl_cons {r : Rl α} {ca : DA} {f : S → Option (α × S)} {g : S → Option (List α × S)} (h1 : JE Γ c f r Γ1) (h2 : JL Γ1 ca g r Γ2) : JL Γ (aCons c ca) (fun s => (f s).bind fun p => (g p.2).map fun q => (p.1 :: q.1, q.2)) r Γ2 := fun s σ v s' hs e => by
 obtain ⟨⟨a, s1⟩, e1, e⟩ := bd e
 obtain ⟨⟨b, s2⟩, e2, e⟩ := mp e
 cases e
 obtain ⟨x, σ1, hx, rx, k1⟩ := h1 s σ a s1 hs e1
 obtain ⟨ys, σ2, hy, ry, k2⟩ := h2 s1 σ1 b s2 k1 e2
 exact ⟨x :: ys, σ2, by simp only [aCons, hx, hy, bind_some, map_some], .cons rx ry, k2⟩
theorem je_lst {r : Rl α} {ca : DA} {f : S → Option (List α × S)} (h : JL Γ ca f r Γ1) : JE Γ (dLst ca) (fun s => (f s).bind fun p => if szC (p.1.length) = true then some p else none) (rL r) Γ1 := fun s σ v s' hs e => by
 obtain ⟨⟨a, s1⟩, e1, e⟩ := bd e
 obtain ⟨ds, σ1, hx, rx, k1⟩ := h s σ a s1 hs e1
 dsimp only at e
 split at e
 ·rename_i hl
  have hl := szC_le hl
  cases e
  exact ⟨_, σ1, by simp only [dLst, hx, bind_some, ← rx.len, hl, if_true], ⟨ds, rfl, rx⟩, k1⟩
 ·cases e
theorem szl {n : Nat} (h : n ≤ 100) : n ≤ sizeLine := Nat.le_of_lt (L2.small1000 (by omega))
theorem aC_some {c : DE} {ca : DA} {σ σ1 σ2 : DSt} {x : D} {xs : List D} (h : c σ = some (x, σ1)) (h' : ca σ1 = some (xs, σ2)) : aCons c ca σ = some (x :: xs, σ2) := by
 simp only [aCons, h, h', bind_some, map_some]
theorem dT_some {ca : DA} {σ σ1 : DSt} {xs : List D} (h : ca σ = some (xs, σ1)) (hl : xs.length ≤ 100) : dTup ca σ = some (.tup xs, σ1) := by
 simp only [dTup, h, bind_some, szl hl, if_true]
theorem je_t2 {a b : DE} {ra : Rl α} {rb : Rl β} {f : S → Option (α × S)} {g : S → Option (β × S)} (h1 : JE Γ a f ra Γ1) (h2 : JE Γ1 b g rb Γ2) : JE Γ (dTup (aCons a (aCons b aNil))) (fun s => (f s).bind fun p => (g p.2).map fun q => ((p.1, q.1), q.2)) (rT2 ra rb) Γ2 := fun s σ v s' hs e => by
 obtain ⟨⟨a, s1⟩, e1, e⟩ := bd e
 obtain ⟨⟨b, s2⟩, e2, e⟩ := mp e
 cases e
 obtain ⟨x, σ1, hx, rx, k1⟩ := h1 s σ a s1 hs e1
 obtain ⟨y, σ2, hy, ry, k2⟩ := h2 s1 σ1 b s2 k1 e2
 exact ⟨_, σ2, dT_some (aC_some hx (aC_some hy rfl)) (Nat.le_of_ble_eq_true rfl), ⟨x, y, rfl, rx, ry⟩, k2⟩
theorem je_t3 {a b d : DE} {ra : Rl α} {rb : Rl β} {rd : Rl γ} {f : S → Option (α × S)} {g : S → Option (β × S)} {h : S → Option (γ × S)} (h1 : JE Γ a f ra Γ1) (h2 : JE Γ1 b g rb Γ2) (h3 : JE Γ2 d h rd Γ3) :
  JE Γ (dTup (aCons a (aCons b (aCons d aNil)))) (fun s => (f s).bind fun p => (g p.2).bind fun q => (h q.2).map fun o => ((p.1, q.1, o.1), o.2)) (rT3 ra rb rd) Γ3 := fun s σ v s' hs e => by
 obtain ⟨⟨a, s1⟩, e1, e⟩ := bd e
 obtain ⟨⟨b, s2⟩, e2, e⟩ := bd e
 obtain ⟨⟨w, s3⟩, e3, e⟩ := mp e
 cases e
 obtain ⟨x, σ1, hx, rx, k1⟩ := h1 s σ a s1 hs e1
 obtain ⟨y, σ2, hy, ry, k2⟩ := h2 s1 σ1 b s2 k1 e2
 obtain ⟨z, σ3, hz, rz, k3⟩ := h3 s2 σ2 w s3 k2 e3
 exact ⟨_, σ3, dT_some (aC_some hx (aC_some hy (aC_some hz rfl))) (Nat.le_of_ble_eq_true rfl), ⟨x, y, z, rfl, rx, ry, rz⟩, k3⟩
theorem je_b1 {g : List D → Option D} {h : α → Option γ} {ra : Rl α} {rc : Rl γ} {f : S → Option (α × S)} (o : JB1 g h ra rc) (h1 : JE Γ c f ra Γ1) : JE Γ (dCallB g (aCons c aNil)) (fun s => (f s).bind fun p => (h p.1).map fun v => (v, p.2)) rc Γ1 := fun s σ v s' hs e => by
 obtain ⟨⟨a, s1⟩, e1, e⟩ := bd e
 obtain ⟨w, e3, e⟩ := mp e
 cases e
 obtain ⟨x, σ1, hx, rx, k1⟩ := h1 s σ a s1 hs e1
 obtain ⟨z, hz, rz⟩ := o a v x e3 rx
 exact ⟨z, σ1, by simp only [dCallB, aCons, aNil, hx, bind_some, map_some, hz], rz, k1⟩
theorem je_cat {r : Rl α} {f g : S → Option (List α × S)} (h1 : JE Γ c f (rL r) Γ1) (h2 : JE Γ1 c' g (rL r) Γ2) : JE Γ (dCat c c') (fun s => (f s).bind fun p => (g p.2).bind fun q => if szC (p.1.length + q.1.length) = true then some (p.1 ++ q.1, q.2) else none) (rL r) Γ2 := fun s σ v s' hs e => by
 obtain ⟨⟨a, s1⟩, e1, e⟩ := bd e
 obtain ⟨⟨b, s2⟩, e2, e⟩ := bd e
 dsimp only at e
 split at e
 ·rename_i hl
  have hl := szC_le hl
  cases e
  obtain ⟨x, σ1, hx, ⟨xs, rfl, rx⟩, k1⟩ := h1 s σ a s1 hs e1
  obtain ⟨y, σ2, hy, ⟨ys, rfl, ry⟩, k2⟩ := h2 s1 σ1 b _ k1 e2
  exact ⟨_, σ2, by simp only [dCat, hx, hy, bind_some, ← rx.len, ← ry.len, hl, if_true], ⟨_, rfl, rx.append ry⟩, k2⟩
 ·cases e
theorem All2.sc {r : Rl α} [k : Sc r] : ∀ {as : List α} {ds : List D}, All2 r as ds → allSc ds = true
 | _, _, .nil => rfl
 | _, _, .cons h t => by
  obtain ⟨w, hw⟩ := k.s _ _ h
  have := All2.sc t
  unfold allSc at this ⊢
  rw [List.all_cons, hw, this]; rfl
theorem Sat.put {i : Nat} {get : S → α} {put : S → α → S} {r : Rl α} {s : S} {σ : DSt} {v : α} {d : D} (hs : Sat Γ s σ) (hg : ∀ s v, get (put s v) = v) (hf : ∀ v, Fr (fun s => put s v) (Γ.set i none)) (h : r v d) : Sat (Γ.set i (some ⟨get, r⟩)) (put s v) (σ.set i (some d)) := by
 have h1 := (hf v).sat (On.setn (i := i) hs)
 have h2 := h1.set (i := i) (l := some ⟨get, r⟩) (o := some d) ⟨d, rfl, by rw [show (Sl.mk get r).get = get from rfl, hg]; exact h⟩
 rw [List.set_set] at h2
 exact h2
theorem je_app (i : Nat) {get : S → List α} {put : S → List α → S} {r : Rl α} [k : Sc r] {p : DP} {f : S → Option α} (h : JP Γ p f r) (hi : Γ[i]? = some (some ⟨get, rL r⟩)) (hg : autoParam (∀ s v, get (put s v) = v) Ax7._auto_1) (hf : autoParam (∀ v, Fr (fun s => put s v) (Γ.set i none)) Ax9._auto_1) :
  JE Γ (dApp i [] p) (fun s => (f s).bind fun v => if ltC ((get s).length) = true then some ((), put s (get s ++ [v])) else none) rN (Γ.set i (some ⟨get, rL r⟩)) := fun s σ v s' hs e => by
 obtain ⟨a, e1, e⟩ := bd e
 split at e
 ·rename_i hl
  have hl := ltC_lt hl
  cases e
  obtain ⟨x, hx, rx⟩ := h s σ a hs e1
  obtain ⟨d, hd, ds, rfl, h2⟩ := hs.get hi
  obtain ⟨w, hw⟩ := k.s _ _ rx
  exact ⟨.non, _, by simp only [dApp, hd, evI, getP, hx, hw, bind_some, ← h2.len, hl, if_true, setP], rfl, hs.put hg hf ⟨_, rfl, h2.append (.cons rx .nil)⟩⟩
 ·cases e
theorem je_appV (i : Nat) {get : S → List α} {put : S → List α → S} {rl : Rl (List α)} {r q : Rl α} [l : Ls rl q] {f : S → Option (α × S)} (h : JE Γ c f r Γ1) (h0 : Γ[i]? = some (some ⟨get, rl⟩)) (hi : Γ1[i]? = some (some ⟨get, rL r⟩)) (hg : autoParam (∀ s v, get (put s v) = v) Ax7._auto_1) (hf : autoParam (∀ v, Fr (fun s => put s v) (Γ1.set i none)) Ax9._auto_1) :
  JE Γ (dAppV i c) (fun s => (f s).bind fun p => if ltC ((get p.2).length) = true then some ((), put p.2 (get p.2 ++ [p.1])) else none) rN (Γ1.set i (some ⟨get, rL r⟩)) := fun s σ v s' hs e => by
 obtain ⟨⟨a, s1⟩, e1, e⟩ := bd e
 dsimp only at e
 split at e
 ·rename_i hl
  have hl := ltC_lt hl
  cases e
  obtain ⟨x, σ1, hx, rx, k1⟩ := h s σ a s1 hs e1
  obtain ⟨d0, hd0, h00⟩ := hs.get h0
  obtain ⟨o0, ds0, rfl, _⟩ := l.l _ _ h00
  obtain ⟨d, hd, ds, rfl, h2⟩ := k1.get hi
  exact ⟨.non, _, by simp only [dAppV, hd0, hx, bind_some, hd, ← h2.len, hl, if_true], rfl, k1.put hg hf ⟨_, rfl, h2.append (.cons rx .nil)⟩⟩
 ·cases e
theorem jt_e {f : S → Option (Bool × S)} (h : JE Γ c f rB Γ1) : JT Γ (dTest c) f Γ1 := fun s σ v s' hs e => by
 obtain ⟨d, σ1, h1, h2, h3⟩ := h s σ v s' hs e
 cases h2
 exact ⟨σ1, by simp only [dTest, h1, bind_some], h3⟩
theorem jt_not {f : S → Option (Bool × S)} (h : JT Γ t f Γ1) : JT Γ (tNotD t) (fun s => (f s).map fun p => (!p.1, p.2)) Γ1 := fun s σ v s' hs e => by
 obtain ⟨⟨a, s1⟩, e1, e2⟩ := mp e
 obtain ⟨σ1, h1, h2⟩ := h s σ a s1 hs e1
 cases e2
 exact ⟨σ1, by simp only [tNotD, h1, map_some], h2⟩
theorem jt_and {f g : S → Option (Bool × S)} (h1 : JT Γ t f Γ1) (h2 : JT Γ1 u g Γ2) (l : autoParam (Le Γ1 Γ') Ax10._auto_1) (l2 : autoParam (Le Γ2 Γ') Ax10._auto_1) : JT Γ (tAndD t u) (fun s => (f s).bind fun p => if p.1 = true then g p.2 else some (false, p.2)) Γ' := fun s σ v s' hs e => by
 obtain ⟨⟨a, s1⟩, e1, e2⟩ := bd e
 obtain ⟨σ1, hx, k1⟩ := h1 s σ a s1 hs e1
 cases a
 ·simp only [Bool.false_eq_true, if_false] at e2
  cases e2
  exact ⟨σ1, by simp only [tAndD, hx, bind_some, Bool.false_eq_true, if_false], l.sat k1⟩
 ·simp only [if_true] at e2
  obtain ⟨σ2, hy, k2⟩ := h2 s1 σ1 v s' k1 e2
  exact ⟨σ2, by simp only [tAndD, hx, bind_some, hy, if_true], l2.sat k2⟩
theorem jt_or {f g : S → Option (Bool × S)} (h1 : JT Γ t f Γ1) (h2 : JT Γ1 u g Γ2) (l : autoParam (Le Γ1 Γ') Ax10._auto_1) (l2 : autoParam (Le Γ2 Γ') Ax10._auto_1) : JT Γ (tOrD t u) (fun s => (f s).bind fun p => if p.1 = true then some (true, p.2) else g p.2) Γ' := fun s σ v s' hs e => by
 obtain ⟨⟨a, s1⟩, e1, e2⟩ := bd e
 obtain ⟨σ1, hx, k1⟩ := h1 s σ a s1 hs e1
 cases a
 ·simp only [Bool.false_eq_true, if_false] at e2
  obtain ⟨σ2, hy, k2⟩ := h2 s1 σ1 v s' k1 e2
  exact ⟨σ2, by simp only [tOrD, hx, bind_some, hy, Bool.false_eq_true, if_false], l2.sat k2⟩
 ·simp only [if_true] at e2
  cases e2
  exact ⟨σ1, by simp only [tOrD, hx, bind_some, if_true], l.sat k1⟩
theorem jt_true : JT Γ tTrue (fun s => some (true, s)) Γ := fun s σ v s' hs e => by cases e; exact ⟨σ, rfl, hs⟩
noncomputable def tSeq (f g : S → Option (TR S ρ)) : S → Option (TR S ρ) := fun s => (f s).bind fun r => match r with | .nx s' => g s' | .rt v s' => some (.rt v s') | .bk s' => some (.bk s') | .ct s' => some (.ct s')
theorem js_dead {c : DS} : JS Γ c (fun _ => none) Γn E := fun s σ v hs e => by cases e
theorem js_seq {a b : DS} {f g : S → Option (TR S ρ)} (h1 : JS Γ a f Γ1 E) (h2 : JS Γ1 b g Γ2 E) : JS Γ (sSeq a b) (tSeq f g) Γ2 E := fun s σ v hs e => by
 obtain ⟨r, e1, e2⟩ := bd e
 obtain ⟨o, ho, ro⟩ := h1 s σ r hs e1
 cases r with
 | nx s' =>
  cases o with
  | nx σ' =>
   obtain ⟨o2, h3, r3⟩ := h2 s' σ' v ro e2
   exact ⟨o2, by simp only [sSeq, ho, bind_some, h3], r3⟩
  | _ => exact ro.elim
 | rt w s' =>
  cases e2
  cases o with
  | rt d σ' => exact ⟨.rt d σ', by simp only [sSeq, ho, bind_some], ro⟩
  | _ => exact ro.elim
 | bk s' =>
  cases e2
  cases o with
  | bk σ' => exact ⟨.bk σ', by simp only [sSeq, ho, bind_some], ro⟩
  | _ => exact ro.elim
 | ct s' =>
  cases e2
  cases o with
  | ct σ' => exact ⟨.ct σ', by simp only [sSeq, ho, bind_some], ro⟩
  | _ => exact ro.elim
theorem js_le {a : DS} {f : S → Option (TR S ρ)} (h : JS Γ a f Γ1 E) (l : Le Γ1 Γn) : JS Γ a f Γn E := fun s σ v hs e => by
 obtain ⟨o, ho, ro⟩ := h s σ v hs e
 refine ⟨o, ho, ?_⟩
 cases v <;> cases o <;> first | exact l.sat ro | exact ro
theorem js_set (i : Nat) {get : S → α} {put : S → α → S} {r : Rl α} {f : S → Option (α × S)} (h : JE Γ c f r Γ1) (hg : autoParam (∀ s v, get (put s v) = v) Ax7._auto_1) (hf : autoParam (∀ v, Fr (fun s => put s v) (Γ1.set i none)) Ax9._auto_1) (hi : autoParam (i < Γ1.length) Ax1._auto_1) :
  JS Γ (sSet i c) (fun s => (f s).map fun p => .nx (put p.2 p.1)) (Γ1.set i (some ⟨get, r⟩)) E := fun s σ v hs e => by
 obtain ⟨⟨a, s1⟩, e1, e2⟩ := mp e
 cases e2
 obtain ⟨d, σ1, h1, h2, h3⟩ := h s σ a s1 hs e1
 have hl : i < σ1.length := by rw [h3.len]; exact hi
 exact ⟨.nx (σ1.set i (some d)), by simp only [sSet, h1, bind_some, hl, if_true], h3.put hg hf h2⟩
theorem js_if {a b : DS} {ft : S → Option (Bool × S)} {f g : S → Option (TR S ρ)} (h0 : JT Γ t ft Γ0) (h1 : JS Γ0 a f Γ1 E) (h2 : JS Γ0 b g Γ2 E) (l1 : autoParam (Le Γ1 Γ') Ax10._auto_1) (l2 : autoParam (Le Γ2 Γ') Ax10._auto_1) : JS Γ (sIf t a b) (fun s => (ft s).bind fun p => if p.1 = true then f p.2 else g p.2) Γ' E := fun s σ v hs e => by
 obtain ⟨⟨b, s1⟩, e1, e2⟩ := bd e
 obtain ⟨σ1, hx, k1⟩ := h0 s σ b s1 hs e1
 cases b
 ·simp only [Bool.false_eq_true, if_false] at e2
  obtain ⟨o, ho, ro⟩ := (js_le h2 l2) s1 σ1 v k1 e2
  exact ⟨o, by simp only [sIf, hx, bind_some, ho, Bool.false_eq_true, if_false], ro⟩
 ·simp only [if_true] at e2
  obtain ⟨o, ho, ro⟩ := (js_le h1 l1) s1 σ1 v k1 e2
  exact ⟨o, by simp only [sIf, hx, bind_some, ho, if_true], ro⟩
theorem js_ret {r : Rl ρ} {f : S → Option (ρ × S)} (h : JE Γ c f r Γ1) (w : autoParam (Wk r E.ro) Ax11._auto_1) (l : autoParam (Le Γ1 E.rt) Ax10._auto_1) : JS Γ (sRet c) (fun s => (f s).map fun p => .rt p.1 p.2) Γn E := fun s σ v hs e => by
 obtain ⟨⟨a, s1⟩, e1, e2⟩ := mp e
 cases e2
 obtain ⟨d, σ1, h1, h2, h3⟩ := h s σ a s1 hs e1
 exact ⟨.rt d σ1, by simp only [sRet, h1, map_some], w.w _ _ h2, l.sat h3⟩
theorem js_drop {r : Rl α} {f : S → Option (α × S)} (h : JE Γ c f r Γ1) : JS Γ (sDrop c) (fun s => (f s).map fun p => .nx p.2) Γ1 E := fun s σ v hs e => by
 obtain ⟨⟨a, s1⟩, e1, e2⟩ := mp e
 cases e2
 obtain ⟨d, σ1, h1, h2, h3⟩ := h s σ a s1 hs e1
 exact ⟨.nx σ1, by simp only [sDrop, h1, map_some], h3⟩
theorem js_skip : JS Γ sSkip (fun s => some (.nx s)) Γ E := fun s σ v hs e => by cases e; exact ⟨_, rfl, hs⟩
theorem jg_nm (i : Nat) {get : S → α} {put : S → α → S} {r : Rl α} (hg : autoParam (∀ s v, get (put s v) = v) Ax7._auto_1) (hf : autoParam (∀ v, Fr (fun s => put s v) (Γ.set i none)) Ax9._auto_1) (hi : autoParam (i < Γ.length) Ax1._auto_1) : JG Γ (gNm i) put r (Γ.set i (some ⟨get, r⟩)) := fun s σ v d hs h => by
 have hl : i < σ.length := by rw [hs.len]; exact hi
 exact ⟨_, by simp only [gNm, hl, if_true], hs.put hg hf h⟩
theorem jg_t2 {g1 g2 : DG} {p1 : S → α → S} {p2 : S → β → S} {ra : Rl α} {rb : Rl β} (h1 : JG Γ g1 p1 ra Γ1) (h2 : JG Γ1 g2 p2 rb Γ2) : JG Γ (gTupD 2 (gConsD g1 (gConsD g2 gNilD))) (fun s v => p2 (p1 s v.1) v.2) (rT2 ra rb) Γ2 := fun s σ v d hs hq0 => by
 obtain ⟨x, y, e, hx, hy⟩ := hq0
 obtain ⟨σ1, e1, k1⟩ := h1 s σ v.1 x hs hx
 obtain ⟨σ2, e2, k2⟩ := h2 _ σ1 v.2 y k1 hy
 exact ⟨σ2, by simp only [e, gTupD, gConsD, gNilD, List.length_cons, List.length_nil, e1, e2, bind_some, if_true], k2⟩
theorem jg_t3 {g1 g2 g3 : DG} {p1 : S → α → S} {p2 : S → β → S} {p3 : S → γ → S} {ra : Rl α} {rb : Rl β} {rc : Rl γ} (h1 : JG Γ g1 p1 ra Γ1) (h2 : JG Γ1 g2 p2 rb Γ2) (h3 : JG Γ2 g3 p3 rc Γ3) : JG Γ (gTupD 3 (gConsD g1 (gConsD g2 (gConsD g3 gNilD)))) (fun s v => p3 (p2 (p1 s v.1) v.2.1) v.2.2) (rT3 ra rb rc) Γ3 := fun s σ v d hs hq0 => by
 obtain ⟨x, y, z, e, hx, hy, hz⟩ := hq0
 obtain ⟨σ1, e1, k1⟩ := h1 s σ v.1 x hs hx
 obtain ⟨σ2, e2, k2⟩ := h2 _ σ1 v.2.1 y k1 hy
 obtain ⟨σ3, e3, k3⟩ := h3 _ σ2 v.2.2 z k2 hz
 exact ⟨σ3, by simp only [e, gTupD, gConsD, gNilD, List.length_cons, List.length_nil, e1, e2, e3, bind_some, if_true], k3⟩
theorem ji_lst {rl : Rl (List α)} {r r' : Rl α} [l : Ls rl r] [k : Fz r r'] {f : S → Option (List α × S)} (h : JE Γ c f rl Γ1) : JI Γ (iLst c) f r' Γ1 := fun s σ v s' hs e => by
 obtain ⟨d, σ1, h1, h2, h3⟩ := h s σ v s' hs e
 obtain ⟨o, ds, rfl, h⟩ := l.l v d h2
 exact ⟨_, σ1, by simp only [iLst, h1, bind_some], h.fz k.f, h3⟩
noncomputable def rng (lo hi : Int) : List Int := (List.range (hi - lo).toNat).map fun (k : Nat) => lo + k
theorem rng_ok (lo hi : Int) : All2 rI (rng lo hi) (rngD lo hi) := by unfold rng rngD; exact All2.ofMap (r := rI) (f := fun (k : Nat) => lo + k) (g := fun (k : Nat) => D.int (lo + k)) (fun _ => rfl) _
theorem ji_r1 {f : S → Option (Int × S)} (h : JE Γ c f rI Γ1) : JI Γ (iR1 (aCons c aNil)) (fun s => (f s).bind fun p => if rokC p.1 = true then some (rng 0 p.1, p.2) else none) rI Γ1 := fun s σ v s' hs e => by
 obtain ⟨⟨a, s1⟩, e1, e⟩ := bd e
 dsimp only at e
 split at e
 ·rename_i hl
  cases e
  obtain ⟨d, σ1, h1, h2, h3⟩ := h s σ a _ hs e1
  cases h2
  refine ⟨_, σ1, ?_, rng_ok _ _, h3⟩
  simp only [iR1, aCons, aNil, h1, bind_some, map_some]
  exact if_pos (rokC_ok hl)
 ·cases e
theorem ji_r2 {f g : S → Option (Int × S)} (h : JE Γ c f rI Γ1) (h' : JE Γ1 c' g rI Γ2) : JI Γ (iR2 (aCons c (aCons c' aNil))) (fun s => (f s).bind fun p => (g p.2).bind fun q => if (rokC p.1 && rokC q.1) = true then some (rng p.1 q.1, q.2) else none) rI Γ2 := fun s σ v s' hs e => by
 obtain ⟨⟨a, s1⟩, e1, e⟩ := bd e
 obtain ⟨⟨b, s2⟩, e2, e⟩ := bd e
 dsimp only at e
 split at e
 ·rename_i hl
  cases e
  obtain ⟨d, σ1, h1, h2, h3⟩ := h s σ a s1 hs e1
  obtain ⟨d', σ2, h4, h5, h6⟩ := h' s1 σ1 b _ h3 e2
  cases h2; cases h5
  refine ⟨_, σ2, ?_, rng_ok _ _, h6⟩
  simp only [iR2, aCons, aNil, h1, h4, bind_some, map_some]
  simp only [Bool.and_eq_true] at hl
  exact if_pos (by rw [rokC_ok hl.1, rokC_ok hl.2]; rfl)
 ·cases e
theorem zip_ok {ra ra' : Rl α} {rb rb' : Rl β} (ka : ∀ a d, ra a d → ra' a d.fz) (kb : ∀ a d, rb a d → rb' a d.fz) : ∀ {as : List α} {bs : List β} {ds es : List D}, All2 ra as ds → All2 rb bs es → All2 (rT2 ra' rb') (as.zip bs) (((D.fzL ds).zip (D.fzL es)).map fun z => .tup [z.1, z.2]) := by
 intro as bs ds es h
 induction h generalizing bs es with
 | nil => intro _; simp only [List.zip_nil_left, D.fzL, List.map_nil]; exact .nil
 | cons h1 t1 ih =>
  intro k
  cases k with
  | nil => simp only [List.zip_nil_right, D.fzL, List.map_nil]; exact .nil
  | cons h2 t2 =>
   simp only [List.zip_cons_cons, D.fzL, List.map_cons]
   exact .cons ⟨_, _, rfl, ka _ _ h1, kb _ _ h2⟩ (ih t2)
theorem ji_zip {rl : Rl (List α)} {ra ra' : Rl α} {rm : Rl (List β)} {rb rb' : Rl β} [l : Ls rl ra] [k : Fz ra ra'] [l2 : Ls rm rb] [k2 : Fz rb rb'] {f : S → Option (List α × S)} {g : S → Option (List β × S)} (h : JE Γ c f rl Γ1) (h' : JE Γ1 c' g rm Γ2) : JI Γ (iZipD c c') (fun s => (f s).bind fun p => (g p.2).map fun q => (p.1.zip q.1, q.2)) (rT2 ra' rb') Γ2 := fun s σ v s' hs e => by
 obtain ⟨⟨a, s1⟩, e1, e⟩ := bd e
 obtain ⟨⟨b, s2⟩, e2, e⟩ := mp e
 cases e
 obtain ⟨d, σ1, h1, h2, h3⟩ := h s σ a s1 hs e1
 obtain ⟨d', σ2, h4, h5, h6⟩ := h' s1 σ1 b s2 h3 e2
 obtain ⟨o, ds, rfl, hh⟩ := l.l a d h2
 obtain ⟨o', ds', rfl, hh'⟩ := l2.l b d' h5
 exact ⟨_, σ2, by simp only [iZipD, h1, h4, bind_some], zip_ok k.f k2.f hh hh', h6⟩
noncomputable def tLoop (put : S → α → S) (b : S → Option (TR S ρ)) : List α → S → Option (TR S ρ)
 | [], s => some (.nx s)
 | x :: xs, s => (b (put s x)).bind fun o => match o with
  | .nx s2 => tLoop put b xs s2
  | .ct s2 => tLoop put b xs s2
  | .bk s2 => some (.nx s2)
  | .rt d s2 => some (.rt d s2)
theorem loop_ok {g : DG} {put : S → α → S} {r : Rl α} {b : DS} {fb : S → Option (TR S ρ)} {Γx Γb : Shp S} (hg : JG Γh g put r Γx) (hb : JS Γx b fb Γb ⟨E.rt, E.ro, Γh⟩) (lb : Le Γb Γh) : ∀ {xs : List α} {ds : List D} {s : S} {σ : DSt} {t : TR S ρ}, All2 r xs ds → Sat Γh s σ → tLoop put fb xs s = some t → ∃ o, dLoop g b ds σ = some o ∧ Rs Γh E t o := by
 intro xs ds s σ t h0
 induction h0 generalizing s σ t with
 | nil => intro hs e; cases e; exact ⟨_, rfl, hs⟩
 | cons h1 h2 ih =>
  intro hs e
  simp only [tLoop] at e
  obtain ⟨o, e1, e⟩ := bd e
  obtain ⟨σ1, g1, k1⟩ := hg s σ _ _ hs h1
  obtain ⟨o', b1, r1⟩ := hb _ σ1 o k1 e1
  cases o with
  | nx s2 =>
   cases o' with
   | nx σ2 =>
    obtain ⟨o2, c1, c2⟩ := ih (lb.sat r1) e
    exact ⟨o2, by simp only [dLoop, g1, bind_some, b1, c1], c2⟩
   | _ => exact r1.elim
  | ct s2 =>
   cases o' with
   | ct σ2 =>
    obtain ⟨o2, c1, c2⟩ := ih r1 e
    exact ⟨o2, by simp only [dLoop, g1, bind_some, b1, c1], c2⟩
   | _ => exact r1.elim
  | bk s2 =>
   cases e
   cases o' with
   | bk σ2 => exact ⟨.nx σ2, by simp only [dLoop, g1, bind_some, b1], r1⟩
   | _ => exact r1.elim
  | rt d s2 =>
   cases e
   cases o' with
   | rt d' σ2 => exact ⟨.rt d' σ2, by simp only [dLoop, g1, bind_some, b1], r1⟩
   | _ => exact r1.elim
theorem js_for {i : DI} {g : DG} {put : S → α → S} {r : Rl α} {b : DS} {fi : S → Option (List α × S)} {fb : S → Option (TR S ρ)} {Γx Γb : Shp S} (hi : JI Γ i fi r Γ1) (l : Le Γ1 Γh) (hg : JG Γh g put r Γx) (hb : JS Γx b fb Γb ⟨E.rt, E.ro, Γh⟩) (lb : autoParam (Le Γb Γh) Ax10._auto_1) :
  JS Γ (sForI i g b) (fun s => (fi s).bind fun p => tLoop put fb p.1 p.2) Γh E := fun s σ v hs e => by
 obtain ⟨⟨xs, s1⟩, e1, e⟩ := bd e
 obtain ⟨ds, σ1, h1, h2, h3⟩ := hi s σ xs s1 hs e1
 obtain ⟨o, h4, h5⟩ := loop_ok hg hb lb h2 (l.sat h3) e
 exact ⟨o, by simp only [sForI, h1, bind_some, h4], h5⟩
end
end TT
namespace TT
open PySem L2 DD
section
variable {S : Type} {α β γ δ ρ : Type} {Γ Γ0 Γ1 Γ2 Γ3 Γ4 Γ' Γn Γh : Shp S} {c c' : DE} {t u : DT} {E : Ex S ρ}
theorem Sat.app : ∀ {Γ Δ : Shp S} {s : S} {σ τ : DSt}, Sat Γ s σ → Sat Δ s τ → Sat (Γ ++ Δ) s (σ ++ τ)
 | [], _, _, [], _, _, h => h
 | _ :: Γ, _, _, _ :: σ, _, h, k => ⟨h.1, Sat.app h.2 k⟩
 | [], _, _, _ :: _, _, h, _ => h.elim
 | _ :: _, _, _, [], _, h, _ => h.elim
theorem Sat.split : ∀ {Γ Δ : Shp S} {s : S} {σ : DSt}, Sat (Γ ++ Δ) s σ → ∃ σ1 σ2, σ = σ1 ++ σ2 ∧ Sat Γ s σ1 ∧ Sat Δ s σ2
 | [], _, _, σ, h => ⟨[], σ, rfl, trivial, h⟩
 | _ :: Γ, _, _, x :: σ, h => by
  obtain ⟨σ1, σ2, e, h1, h2⟩ := Sat.split (Γ := Γ) h.2
  exact ⟨x :: σ1, σ2, by rw [e]; rfl, ⟨h.1, h1⟩, h2⟩
 | _ :: _, _, _, [], h => h.elim
theorem Sat.non {s : S} : ∀ {k : Nat} {σ : DSt}, σ.length = k → Sat (List.replicate k none) s σ
 | 0, [], _ => trivial
 | k + 1, _ :: σ, h => ⟨trivial, Sat.non (k := k) (by simpa using h)⟩
noncomputable def tLc (ft : α → S → Option (Bool × S)) (fe : α → S → Option (β × S)) : List α → S → Option (List β × S)
 | [], s => some ([], s)
 | x :: xs, s => (ft x s).bind fun p => if p.1 = true then (fe x p.2).bind fun q => (tLc ft fe xs q.2).map fun r => (q.1 :: r.1, r.2) else tLc ft fe xs p.2
noncomputable def JGc (Γ : Shp S) (k : Nat) (g : DG) (r : Rl α) (Δ : α → Shp S) : Prop := ∀ s σ v d, Sat (Γ ++ List.replicate k none) s σ → r v d → ∃ σ', g d σ = some σ' ∧ Sat (Γ ++ Δ v) s σ'
theorem set_app {A : List (Option D)} {a b : Option D} {B : DSt} : (A ++ a :: B).set A.length b = A ++ b :: B := by
 rw [List.set_append_right _ _ (Nat.le_refl _)]; simp
theorem jgc1 {r : Rl α} (i : Nat) (hi : i = Γ.length) : JGc Γ 1 (gNm i) r (fun v => [some ⟨fun _ => v, r⟩]) := fun s σ v d hs h => by
 obtain ⟨σ1, σ2, rfl, h1, h2⟩ := hs.split
 match σ2, h2 with
 | [o], _ =>
  have hl : σ1.length = i := by rw [h1.len, hi]
  have hl2 : i < (σ1 ++ [o]).length := by simp [hl]
  refine ⟨σ1 ++ [some d], ?_, h1.app ⟨⟨d, rfl, h⟩, trivial⟩⟩
  simp only [gNm, hl2, if_true]
  rw [← hl, set_app]
theorem jgc2 {ra : Rl α} {rb : Rl β} (i j : Nat) (hi : i = Γ.length) (hj : j = Γ.length + 1) : JGc Γ 2 (gTupD 2 (gConsD (gNm i) (gConsD (gNm j) gNilD))) (rT2 ra rb) (fun v => [some ⟨fun _ => v.1, ra⟩, some ⟨fun _ => v.2, rb⟩]) := fun s σ v d hs hq0 => by
 obtain ⟨x, y, e, hx, hy⟩ := hq0
 obtain ⟨σ1, σ2, rfl, h1, h2⟩ := hs.split
 match σ2, h2 with
 | [o, o'], _ =>
  have hl : σ1.length = i := by rw [h1.len, hi]
  have hl2 : i < (σ1 ++ [o, o']).length := by simp [hl]
  have hl3 : j < (σ1 ++ [some x, o']).length := by simp [hl]; omega
  refine ⟨σ1 ++ [some x, some y], ?_, h1.app ⟨⟨x, rfl, hx⟩, ⟨y, rfl, hy⟩, trivial⟩⟩
  have e1 : (σ1 ++ [o, o']).set i (some x) = σ1 ++ [some x, o'] := by rw [← hl, set_app]
  have e2 : (σ1 ++ [some x, o']).set j (some y) = σ1 ++ [some x, some y] := by
   have h3 : j = (σ1 ++ [some x]).length := by simp; omega
   rw [show σ1 ++ [some x, o'] = (σ1 ++ [some x]) ++ [o'] by simp, h3, set_app]; simp
  simp only [e, gTupD, gConsD, gNilD, gNm, List.length_cons, List.length_nil, if_true, hl2, e1, bind_some, hl3, e2]
theorem lc_ok {k : Nat} {g : DG} {r : Rl α} {re : Rl β} {Δ : α → Shp S} {ft : α → S → Option (Bool × S)} {fe : α → S → Option (β × S)} {Γt Γe : α → Shp S} (hg : JGc Γh k g r Δ) (ht : ∀ x, JT (Γh ++ Δ x) t (ft x) (Γt x)) (l1 : ∀ x, Le (Γt x) (Γh ++ List.replicate k none)) (he : ∀ x, JE (Γt x) c (fe x) re (Γe x)) (l2 : ∀ x, Le (Γe x) (Γh ++ List.replicate k none)) :
  ∀ {xs : List α} {ds : List D} {s : S} {σ : DSt} {ys : List β} {s' : S}, All2 r xs ds → Sat (Γh ++ List.replicate k none) s σ → tLc ft fe xs s = some (ys, s') → ∃ es σ', lcGo g t c ds σ = some (es, σ') ∧ All2 re ys es ∧ Sat (Γh ++ List.replicate k none) s' σ' := by
 intro xs ds s σ ys s' h0
 induction h0 generalizing s σ ys s' with
 | nil => intro hs e; cases e; exact ⟨[], σ, rfl, .nil, hs⟩
 | cons h1 h2 ih =>
  intro hs e
  simp only [tLc] at e
  obtain ⟨⟨b, s1⟩, e1, e⟩ := bd e
  obtain ⟨σ1, g1, k1⟩ := hg s σ _ _ hs h1
  obtain ⟨σ2, g2, k2⟩ := ht _ s σ1 b s1 k1 e1
  cases b
  ·simp only [Bool.false_eq_true, if_false] at e
   obtain ⟨es, σ3, g3, r3, k3⟩ := ih ((l1 _).sat k2) e
   exact ⟨es, σ3, by simp only [lcGo, g1, bind_some, g2, Bool.false_eq_true, if_false, g3], r3, k3⟩
  ·simp only [if_true] at e
   obtain ⟨⟨v, s2⟩, e2, e⟩ := bd e
   obtain ⟨⟨w, s3⟩, e3, e⟩ := mp e
   cases e
   obtain ⟨d, σ3, g3, r3, k3⟩ := he _ s1 σ2 v s2 k2 e2
   obtain ⟨es, σ4, g4, r4, k4⟩ := ih ((l2 _).sat k3) e3
   exact ⟨d :: es, σ4, by simp only [lcGo, g1, bind_some, g2, if_true, g3, g4, map_some], .cons r3 r4, k4⟩
theorem je_lc {k : Nat} {i : DI} {g : DG} {r : Rl α} {re : Rl β} {Δ : α → Shp S} {fi : S → Option (List α × S)} {ft : α → S → Option (Bool × S)} {fe : α → S → Option (β × S)} {Γt Γe : α → Shp S} (hi : JI Γ i fi r Γ1) (l : Le Γ1 Γh) (hg : JGc Γh k g r Δ) (ht : ∀ x, JT (Γh ++ Δ x) t (ft x) (Γt x)) (he : ∀ x, JE (Γt x) c (fe x) re (Γe x)) (l1 : autoParam (∀ x, Le (Γt x) (Γh ++ List.replicate k none)) Ax12._auto_1) (l2 : autoParam (∀ x, Le (Γe x) (Γh ++ List.replicate k none)) Ax12._auto_1) :
  JE Γ (dLc k i g t c) (fun s => (fi s).bind fun p => if szC (p.1.length) = true then tLc ft fe p.1 p.2 else none) (rL re) Γh := fun s σ v s' hs e => by
 obtain ⟨⟨xs, s1⟩, e1, e⟩ := bd e
 obtain ⟨ds, σ1, h1, h2, h3⟩ := hi s σ xs s1 hs e1
 dsimp only at e
 split at e
 ·rename_i hl
  have hl := szC_le hl
  have h4 := l.sat h3
  obtain ⟨es, σ2, g2, r2, k2⟩ := lc_ok hg ht l1 he l2 h2 (h4.app (Sat.non (k := k) (σ := List.replicate k none) (by simp))) e
  obtain ⟨σa, σb, rfl, ka, kb⟩ := k2.split
  refine ⟨_, σa, ?_, ⟨es, rfl, r2⟩, ka⟩
  have hl2 : ds.length ≤ sizeLine := by rw [← h2.len]; exact hl
  have hlen : σ1.length = σa.length := by rw [h4.len, ka.len]
  simp only [dLc, h1, bind_some, hl2, if_true, g2, map_some, hlen, List.take_left]
 ·cases e
noncomputable def Pn : Unit → List D → Prop := fun _ ds => ds = []
noncomputable def Pc (r : Rl α) (P : β → List D → Prop) : α × β → List D → Prop := fun p ds => ∃ d ds', ds = d :: ds' ∧ r p.1 d ∧ P p.2 ds'
noncomputable def JF {P : Type} (g : GF) (h : P → Option (ρ × P)) (PI : P → List D → Prop) (ro : Rl ρ) (PO : P → List D → Prop) : Prop := ∀ p ds v q, PI p ds → h p = some (v, q) → ∃ d ds', g ds = some (d, ds') ∧ ro v d ∧ PO q ds'
noncomputable def JA1 {A : Type} (Γ : Shp S) (as : List DD.Arg) (f : S → Option (A × S)) (oe : A → List (Option D) → Prop) (Γ' : Shp S) : Prop := ∀ s σ a s', Sat Γ s σ → f s = some (a, s') → ∃ os σ', evM as σ = some (os, σ') ∧ oe a os ∧ Sat Γ' s' σ'
noncomputable def o0 : Unit → List (Option D) → Prop := fun _ os => os = []
noncomputable def oB {A : Type} (oe : A → List (Option D) → Prop) : A → List (Option D) → Prop := fun a os => ∃ o', os = none :: o' ∧ oe a o'
noncomputable def oX {A : Type} (r : Rl α) (oe : A → List (Option D) → Prop) : α × A → List (Option D) → Prop := fun a os => ∃ d o', os = some d :: o' ∧ r a.1 d ∧ oe a.2 o'
theorem ja1_nil : JA1 Γ [] (fun s => some ((), s)) o0 Γ := fun s σ a s' hs e => by cases e; exact ⟨[], σ, rfl, rfl, hs⟩
theorem ja1_bo {A : Type} (i : Nat) {as : List DD.Arg} {f : S → Option (A × S)} {oe : A → List (Option D) → Prop} {l : Sl S} (hi : Γ[i]? = some (some l)) (h : JA1 Γ as f oe Γ') : JA1 Γ (.bo i :: as) f (oB oe) Γ' := fun s σ a s' hs e => by
 obtain ⟨os, σ', h1, h2, h3⟩ := h s σ a s' hs e
 obtain ⟨d, hd, _⟩ := hs.get hi
 exact ⟨none :: os, σ', by simp only [evM, hd, bind_some, h1, map_some], ⟨os, rfl, h2⟩, h3⟩
theorem ja1_ex {A : Type} {as : List DD.Arg} {f1 : S → Option (α × S)} {f : S → Option (A × S)} {oe : A → List (Option D) → Prop} {r : Rl α} (h0 : JE Γ c f1 r Γ1) (h : JA1 Γ1 as f oe Γ') : JA1 Γ (.ex c :: as) (fun s => (f1 s).bind fun p => (f p.2).map fun q => ((p.1, q.1), q.2)) (oX r oe) Γ' := fun s σ a s' hs e => by
 obtain ⟨⟨v, s1⟩, e1, e⟩ := bd e
 obtain ⟨⟨b, s2⟩, e2, e⟩ := mp e
 cases e
 obtain ⟨d, σ1, g1, r1, k1⟩ := h0 s σ v s1 hs e1
 obtain ⟨os, σ', h1, h2, h3⟩ := h s1 σ1 b s2 k1 e2
 exact ⟨some d :: os, σ', by simp only [evM, g1, bind_some, h1, map_some], ⟨d, os, rfl, r1, h2⟩, h3⟩
noncomputable def JA2 {A P : Type} (Γ : Shp S) (as : List DD.Arg) (oe : A → List (Option D) → Prop) (pk : A → S → P) (PI : P → List D → Prop) (Γ' : Shp S) : Prop := ∀ s σ a os, Sat Γ s σ → oe a os → ∃ ds σ', fillM as os σ = some (ds, σ') ∧ PI (pk a s) ds ∧ Sat Γ' s σ'
theorem ja2_nil : JA2 Γ [] o0 (fun _ _ => ()) Pn Γ := fun s σ a os hs e => by cases e; exact ⟨[], σ, rfl, rfl, hs⟩
theorem ja2_sc {A P : Type} (i : Nat) {as : List DD.Arg} {oe : A → List (Option D) → Prop} {pk : A → S → P} {PI : P → List D → Prop} {get : S → α} {r r' : Rl α} [k : Sc r] [w : Wk r r'] (hi : Γ[i]? = some (some ⟨get, r⟩)) (h : JA2 Γ as oe pk PI Γ') : JA2 Γ (.bo i :: as) (oB oe) (fun a s => (get s, pk a s)) (Pc r' PI) Γ' := fun s σ a os hs hq0 => by
 obtain ⟨o', e, ho⟩ := hq0
 obtain ⟨ds, σ', h1, h2, h3⟩ := h s σ a o' hs ho
 obtain ⟨d, hd, rd⟩ := hs.get hi
 obtain ⟨v, hv⟩ := k.s _ _ rd
 exact ⟨d :: ds, σ', by simp only [e, fillM, hd, bind_some, hv, h1, map_some], ⟨d, ds, rfl, w.w _ _ rd, h2⟩, h3⟩
theorem ja2_ns {A P : Type} (i : Nat) {as : List DD.Arg} {oe : A → List (Option D) → Prop} {pk : A → S → P} {PI : P → List D → Prop} {get : S → α} {r r' : Rl α} [k : Ns r] [w : Wk r r'] (hi : Γ[i]? = some (some ⟨get, r⟩)) (h : JA2 (Γ.set i none) as oe pk PI Γ') : JA2 Γ (.bo i :: as) (oB oe) (fun a s => (get s, pk a s)) (Pc r' PI) Γ' := fun s σ a os hs hq0 => by
 obtain ⟨o', e, ho⟩ := hq0
 obtain ⟨d, hd, rd⟩ := hs.get hi
 obtain ⟨ds, σ', h1, h2, h3⟩ := h s (σ.set i none) a o' hs.setn ho
 have hv := k.s _ _ rd
 exact ⟨d :: ds, σ', by simp only [e, fillM, hd, bind_some, hv, h1, map_some], ⟨d, ds, rfl, w.w _ _ rd, h2⟩, h3⟩
theorem ja2_ex {A P : Type} {as : List DD.Arg} {oe : A → List (Option D) → Prop} {pk : A → S → P} {PI : P → List D → Prop} {r r' : Rl α} [w : Wk r r'] (h : JA2 Γ as oe pk PI Γ') : JA2 Γ (.ex c :: as) (oX r oe) (fun a s => (a.1, pk a.2 s)) (Pc r' PI) Γ' := fun s σ a os hs hq0 => by
 obtain ⟨d, o', e, rd, ho⟩ := hq0
 obtain ⟨ds, σ', h1, h2, h3⟩ := h s σ a.2 o' hs ho
 exact ⟨d :: ds, σ', by simp only [e, fillM, h1, map_some], ⟨d, ds, rfl, w.w _ _ rd, h2⟩, h3⟩
noncomputable def JA3 {P : Type} (Γ : Shp S) (as : List DD.Arg) (PO : P → List D → Prop) (u : S → P → S) (Γ' : Shp S) : Prop := ∀ s σ q ds, Sat Γ s σ → PO q ds → Sat Γ' (u s q) (backM as ds σ)
theorem ja3_nil : JA3 Γ [] Pn (fun s _ => s) Γ := fun s σ q ds hs e => by cases e; exact hs
theorem ja3_sc {P : Type} (i : Nat) {as : List DD.Arg} {PO : P → List D → Prop} {u : S → P → S} {r : Rl α} [k : Sc r] (h : JA3 Γ as PO u Γ') : JA3 Γ (.bo i :: as) (Pc r PO) (fun s q => u s q.2) Γ' := fun s σ q ds hs hq0 => by
 obtain ⟨d, ds', e, rd, hp⟩ := hq0
 obtain ⟨v, hv⟩ := k.s _ _ rd
 simp only [e, backM, hv]
 exact h s σ q.2 ds' hs hp
theorem ja3_ns {P : Type} (i : Nat) {as : List DD.Arg} {PO : P → List D → Prop} {u : S → P → S} {get : S → α} {put : S → α → S} {r : Rl α} [k : Ns r] (hg : autoParam (∀ s v, get (put s v) = v) Ax7._auto_1) (hf : autoParam (∀ v, Fr (fun s => put s v) (Γ.set i none)) Ax9._auto_1) (h : JA3 (Γ.set i (some ⟨get, r⟩)) as PO u Γ') : JA3 Γ (.bo i :: as) (Pc r PO) (fun s q => u (put s q.1) q.2) Γ' := fun s σ q ds hs hq0 => by
 obtain ⟨d, ds', e, rd, hp⟩ := hq0
 have hv := k.s _ _ rd
 simp only [e, backM, hv]
 exact h _ _ q.2 ds' (hs.put hg hf rd) hp
theorem ja3_any {P : Type} (i : Nat) {as : List DD.Arg} {PO : P → List D → Prop} {u : S → P → S} {r : Rl α} (h : JA3 (Γ.set i none) as PO u Γ') : JA3 Γ (.bo i :: as) (Pc r PO) (fun s q => u s q.2) Γ' := fun s σ q ds hs hq0 => by
 obtain ⟨d, ds', e, rd, hp⟩ := hq0
 rcases hv : d.sc with _ | w
 ·simp only [e, backM, hv]
  exact h s _ q.2 ds' hs.setn hp
 ·simp only [e, backM, hv]
  exact h s σ q.2 ds' (On.setn hs) hp
theorem ja3_ex {P : Type} {as : List DD.Arg} {PO : P → List D → Prop} {u : S → P → S} {r : Rl α} (h : JA3 Γ as PO u Γ') : JA3 Γ (.ex c :: as) (Pc r PO) (fun s q => u s q.2) Γ' := fun s σ q ds hs hq0 => by
 obtain ⟨d, ds', e, rd, hp⟩ := hq0
 simp only [e, backM]
 exact h s σ q.2 ds' hs hp
theorem je_call {A P : Type} {g : GF} {h : P → Option (ρ × P)} {as : List DD.Arg} {f : S → Option (A × S)} {oe : A → List (Option D) → Prop} {pk : A → S → P} {PI PO : P → List D → Prop} {ro : Rl ρ} {u : S → P → S} (hF : JF g h PI ro PO) (h1 : JA1 Γ as f oe Γ1) (h2 : JA2 Γ1 as oe pk PI Γ2) (h3 : JA3 Γ2 as PO u Γ3) :
  JE Γ (dCall g as) (fun s => (f s).bind fun p => (h (pk p.1 p.2)).map fun q => (q.1, u p.2 q.2)) ro Γ3 := fun s σ v s' hs e => by
 obtain ⟨⟨a, s1⟩, e1, e⟩ := bd e
 obtain ⟨⟨w, q⟩, e2, e⟩ := mp e
 obtain ⟨rfl, rfl⟩ := Prod.mk.inj e
 obtain ⟨os, σ1, g1, r1, k1⟩ := h1 s σ a s1 hs e1
 obtain ⟨ds, σ2, g2, r2, k2⟩ := h2 s1 σ1 a os k1 r1
 obtain ⟨d, ds', g3, r3, k3⟩ := hF _ _ _ _ r2 e2
 exact ⟨d, _, by simp only [dCall, g1, bind_some, g2, g3, map_some], r3, h3 s1 σ2 q ds' k2 k3⟩
end
section
variable {S : Type} {α β γ δ ρ : Type} {P Q : Type}
noncomputable def JI0 (W : List Nat) (k : Nat) (PI : P → List D → Prop) (Γ : Shp Q) (pr : P → Q) : Prop := ∀ p ds, PI p ds → Sat Γ (pr p) ((inD W k ds).map some) ∧ ds.length = Γ.length
theorem jin_nil {W : List Nat} {k : Nat} {pr : Unit → Q} : JI0 W k Pn ([] : Shp Q) pr := fun p ds h => by cases h; exact ⟨trivial, rfl⟩
theorem jin_cons {W : List Nat} {k : Nat} {PI : P → List D → Prop} {Γ : Shp Q} {r : Rl α} {get : Q → α} {pr : α × P → Q} (hk : k ∉ W) (h0 : ∀ p, get (pr p) = p.1) (h : ∀ a, JI0 W (k + 1) PI Γ (fun p => pr (a, p))) : JI0 W k (Pc r PI) (some ⟨get, r⟩ :: Γ) pr := fun p ds hq0 => by
 obtain ⟨d, ds', e, rd, hp⟩ := hq0
 obtain ⟨h1, h2⟩ := h p.1 p.2 ds' hp
 refine ⟨?_, by simp [e, h2]⟩
 simp only [e, inD, hk, if_false, List.map_cons]
 exact ⟨⟨d, rfl, by rw [show (Sl.mk get r).get = get from rfl, h0]; exact rd⟩, h1⟩
theorem jin_fz {W : List Nat} {k : Nat} {PI : P → List D → Prop} {Γ : Shp Q} {r r' : Rl α} [z : Fz r r'] {get : Q → α} {pr : α × P → Q} (hk : k ∈ W) (h0 : ∀ p, get (pr p) = p.1) (h : ∀ a, JI0 W (k + 1) PI Γ (fun p => pr (a, p))) : JI0 W k (Pc r PI) (some ⟨get, r'⟩ :: Γ) pr := fun p ds hq0 => by
 obtain ⟨d, ds', e, rd, hp⟩ := hq0
 obtain ⟨h1, h2⟩ := h p.1 p.2 ds' hp
 refine ⟨?_, by simp [e, h2]⟩
 simp only [e, inD, hk, if_true, List.map_cons]
 exact ⟨⟨d.fz, rfl, by rw [show (Sl.mk get r').get = get from rfl, h0]; exact z.f _ _ rd⟩, h1⟩
noncomputable def JO0 (W : List Nat) (k : Nat) (PI : P → List D → Prop) (Γr : Shp S) (fin : P → S → P) (PO : P → List D → Prop) : Prop := ∀ p ds s σ, PI p ds → Sat Γr s σ → PO (fin p s) (outD W σ k ds)
theorem jout_nil {W : List Nat} {k : Nat} {Γr : Shp S} : JO0 W k Pn Γr (fun p _ => p) Pn := fun p ds s σ h _ => by cases h; rfl
theorem jout_keep {W : List Nat} {k : Nat} {PI PO : P → List D → Prop} {Γr : Shp S} {fin : P → S → P} {r q : Rl α} {get : S → α} (hk : k ∉ W) (hi : Γr[k]? = some (some ⟨get, q⟩)) (h : JO0 W (k + 1) PI Γr fin PO) : JO0 W k (Pc r PI) Γr (fun p s => (get s, fin p.2 s)) (Pc q PO) := fun p ds s σ hq0 hs => by
 obtain ⟨d, ds', e, rd, hp⟩ := hq0
 obtain ⟨d', hd, rd'⟩ := hs.get hi
 exact ⟨d', _, by simp only [e, outD, hk, if_false, hd, Option.getD_some], rd', h p.2 ds' s σ hp hs⟩
theorem jout_fz {W : List Nat} {k : Nat} {PI PO : P → List D → Prop} {Γr : Shp S} {fin : P → S → P} {r r' : Rl α} [z : Fz r r'] (hk : k ∈ W) (h : JO0 W (k + 1) PI Γr fin PO) : JO0 W k (Pc r PI) Γr (fun p s => (p.1, fin p.2 s)) (Pc r' PO) := fun p ds s σ ⟨d, ds', e, rd, hp⟩ hs =>
 ⟨d.fz, _, by simp only [e, outD, hk, if_true], z.f _ _ rd, h p.2 ds' s σ hp hs⟩
theorem jf_rt {N : Nat} {W : List Nat} {c : DS} {Γp Γn Γr : Shp S} {f : S → Option (TR S ρ)} {init : P → S} {fin : P → S → P} {PI PO : P → List D → Prop} {ro : Rl ρ} (hi : JI0 W 0 PI Γp init) (hb : JS (Γp ++ List.replicate (N - Γp.length) none) c f Γn ⟨Γr, ro, []⟩) (ho : JO0 W 0 PI Γr fin PO) :
  JF (gOf N W c) (fun p => (f (init p)).bind fun t => match t with | .rt v s => some (v, fin p s) | _ => none) PI ro PO := fun p ds v q hp e => by
 obtain ⟨t, e1, e⟩ := bd e
 obtain ⟨h1, h2⟩ := hi p ds hp
 have hs := h1.app (Sat.non (s := init p) (k := N - Γp.length) (σ := List.replicate (N - Γp.length) none) (by simp))
 obtain ⟨o, ho1, ro1⟩ := hb _ _ t hs e1
 cases t with
 | rt w s =>
  cases e
  cases o with
  | rt d σ => exact ⟨d, _, by simp only [gOf, h2, ho1, bind_some], ro1.1, ho p ds s σ hp ro1.2⟩
  | _ => exact ro1.elim
 | _ => cases e
theorem jf_nx {N : Nat} {W : List Nat} {c : DS} {Γp Γn Γr : Shp S} {f : S → Option (TR S Unit)} {init : P → S} {fin : P → S → P} {PI PO : P → List D → Prop} (hi : JI0 W 0 PI Γp init) (hb : JS (Γp ++ List.replicate (N - Γp.length) none) c f Γn ⟨Γr, rN, []⟩) (hl : Le Γn Γr) (ho : JO0 W 0 PI Γr fin PO) :
  JF (gOf N W c) (fun p => (f (init p)).bind fun t => match t with | .rt v s => some (v, fin p s) | .nx s => some ((), fin p s) | _ => none) PI rN PO := fun p ds v q hp e => by
 obtain ⟨t, e1, e⟩ := bd e
 obtain ⟨h1, h2⟩ := hi p ds hp
 have hs := h1.app (Sat.non (s := init p) (k := N - Γp.length) (σ := List.replicate (N - Γp.length) none) (by simp))
 obtain ⟨o, ho1, ro1⟩ := hb _ _ t hs e1
 cases t with
 | rt w s =>
  cases e
  cases o with
  | rt d σ => exact ⟨d, _, by simp only [gOf, h2, ho1, bind_some], ro1.1, ho p ds s σ hp ro1.2⟩
  | _ => exact ro1.elim
 | nx s =>
  cases e
  cases o with
  | nx σ => exact ⟨.non, _, by simp only [gOf, h2, ho1, bind_some], rfl, ho p ds s σ hp (hl.sat ro1)⟩
  | _ => exact ro1.elim
 | _ => cases e
end
end TT
namespace TT
open PySem L2 DD
section
variable {S : Type} {α β γ δ ρ : Type} {Γ Γ0 Γ1 Γ2 Γ3 Γ4 Γ' Γn Γh : Shp S} {c c' : DE} {t u : DT} {E : Ex S ρ}
noncomputable def JPL (Γ : Shp S) (ps : List DP) (f : S → Option (List α)) (r : Rl α) : Prop := ∀ s σ v, Sat Γ s σ → f s = some v → ∃ ds, evB ps σ = some ds ∧ All2 r v ds
theorem jpl_nil {r : Rl α} : JPL Γ [] (fun _ => some []) r := fun s σ v hs e => by cases e; exact ⟨[], rfl, .nil⟩
theorem jpl_cons {r : Rl α} {p : DP} {ps : List DP} {f : S → Option α} {g : S → Option (List α)} (h : JP Γ p f r) (k : JPL Γ ps g r) : JPL Γ (p :: ps) (fun s => (f s).bind fun a => (g s).map fun as => a :: as) r := fun s σ v hs e => by
 obtain ⟨a, e1, e⟩ := bd e
 obtain ⟨as, e2, e⟩ := mp e
 cases e
 obtain ⟨d, h1, h2⟩ := h s σ a hs e1
 obtain ⟨ds, h3, h4⟩ := k s σ as hs e2
 exact ⟨d :: ds, by simp only [evB, h1, h3, bind_some, map_some], .cons h2 h4⟩
theorem jp_lst {r : Rl α} {ps : List DP} {f : S → Option (List α)} (h : JPL Γ ps f r) : JP Γ (pLst ps) (fun s => (f s).bind fun xs => if szC (xs.length) = true then some xs else none) (rL r) := fun s σ v hs e => by
 obtain ⟨a, e1, e⟩ := bd e
 obtain ⟨ds, h3, h4⟩ := h s σ a hs e1
 split at e
 ·rename_i hl
  have hl := szC_le hl
  cases e
  exact ⟨.lst true ds, by simp only [pLst, h3, bind_some, ← h4.len, hl, if_true], ds, rfl, h4⟩
 ·cases e
noncomputable def Ln (R : Rl α) (k : Int) (π : α → β) (up : α → β → α) (q : Rl β) : Prop := ∀ a d, R a d → ∃ x, getP d [k] = some x ∧ q (π a) x ∧ ∀ v y, q v y → R (up a v) (setP d [k] y)
theorem ln20 {r : Rl α} {q : Rl β} : Ln (rT2 r q) 0 (fun p => p.1) (fun p v => (v, p.2)) r := fun _ _ ⟨x, y, e, h1, h2⟩ => ⟨x, by rw [e]; rfl, h1, fun v z hz => ⟨z, y, by rw [e]; rfl, hz, h2⟩⟩
theorem pyC {x : D} {xs : List D} {p : PyData} {ps : List PyData} (h : x.py = some p) (h' : D.pyL xs = some ps) : D.pyL (x :: xs) = some (p :: ps) := by simp only [D.pyL, h, h', bind_some, map_some]
theorem pyT {xs : List D} {ps : List PyData} (h : D.pyL xs = some ps) : (D.tup xs).py = some (.tuple ps) := by simp only [D.py, h, map_some]
theorem layC {p : PyData} {ps : List PyData} (h : p.canLay0 = true) (h' : PyData.canLayAll0 ps = true) : PyData.canLayAll0 (p :: ps) = true := by simp only [PyData.canLayAll0, h, h', Bool.and_self]
theorem layT {ps : List PyData} (h : PyData.canLayAll0 ps = true) : (PyData.tuple ps).canLay0 = true := by simp only [PyData.canLay0, h]
theorem dpC {p : PyData} {ps : List PyData} {k : Nat} (h : p.depth ≤ k) (h' : PyData.depthAll ps ≤ k) : PyData.depthAll (p :: ps) ≤ k := by simp only [PyData.depthAll]; omega
theorem dpN {k : Nat} : PyData.depthAll [] ≤ k := by simp only [PyData.depthAll]; omega
theorem dpT {ps : List PyData} {k : Nat} (h : PyData.depthAll ps ≤ k) : (PyData.tuple ps).depth ≤ k + 1 := by simp only [PyData.depth]; omega
instance {r : Rl α} {q : Rl β} [k : Py r] [l : Py q] : Py (rT2 r q) := ⟨fun p => .tuple [Py.pe r p.1, Py.pe q p.2], fun p => Py.ok r p.1 && Py.ok q p.2, max (Py.k r) (Py.k q) + 1,
 fun a d hq0 => by obtain ⟨x, y, e, h1, h2⟩ := hq0; rw [e]; exact pyT (pyC (k.py _ _ h1) (pyC (l.py _ _ h2) rfl)), fun a h => by
  simp only [Bool.and_eq_true] at h
  exact layT (layC (k.lay _ h.1) (layC (l.lay _ h.2) rfl)), fun a h => by
  simp only [Bool.and_eq_true] at h
  exact dpT (dpC (Nat.le_trans (k.dep a.1 h.1) (Nat.le_max_left _ _)) (dpC (Nat.le_trans (l.dep a.2 h.2) (Nat.le_max_right _ _)) dpN))⟩
end
end TT
namespace TT
open PySem L2 DD
section
variable {S : Type} {α β γ δ ρ : Type} {Γ Γ0 Γ1 Γ2 Γ3 Γ4 Γ' Γn Γh : Shp S} {c c' : DE} {t u : DT} {E : Ex S ρ} {P : Type}
end
end TT
namespace TT
open PySem L2 DD
section
variable {S : Type} {α β γ δ ρ : Type} {Γ Γ0 Γ1 Γ2 Γ3 Γ4 Γ' Γn Γh : Shp S} {c c' : DE} {t u : DT} {E : Ex S ρ} {P : Type}
end
end TT
namespace TT
open PySem L2 DD
section
variable {S : Type} {α β γ δ ρ : Type} {Γ Γ0 Γ1 Γ2 Γ3 Γ4 Γ' Γn Γh : Shp S} {c c' : DE} {t u : DT} {E : Ex S ρ} {P : Type}
theorem je_listB {rl : Rl (List α)} {r : Rl α} [l : Ls rl r] [k : Sc r] {p : DP} {f : S → Option (List α)} (h : JP Γ p f rl) : JE Γ (dListB p) (fun s => (f s).map fun xs => (xs, s)) (rL r) Γ := fun s σ v s' hs e => by
 obtain ⟨a, e1, e2⟩ := mp e
 cases e2
 obtain ⟨d, hd, rd⟩ := h s σ v hs e1
 obtain ⟨o, ds, rfl, hh⟩ := l.l v d rd
 exact ⟨.lst true ds, σ, by simp only [dListB, hd, bind_some, hh.sc, if_true], ⟨ds, rfl, hh⟩, hs⟩
end
end TT
namespace TT
open PySem DD
variable {S α β γ : Type} {Γ Γ1 Γ2 Γ' : Shp S}
section
variable {c c' : DE} {t u : DT} {Γh : Shp S} {α β : Type}
end
end TT
namespace TT
open PySem DD L2
variable {S α β γ : Type} {Γ Γ1 Γ2 Γ' : Shp S} {c c' : DE} {t u : DT}
noncomputable def enT : Nat → List α → List (Int × α)
 | _, [] => []
 | n, x :: xs => ((n : Int), x) :: enT (n + 1) xs
theorem enT_len : ∀ (xs : List α) (n : Nat), (enT n xs).length = xs.length
 | [], _ => rfl
 | _ :: xs, n => by simp [enT, enT_len xs]
theorem all2_en {r : Rl α} : ∀ {xs : List α} {ds : List D} (n : Nat), All2 r xs ds → All2 (rT2 rI r) (enT n xs) (enD n ds)
 | _, _, n, .nil => .nil
 | _, _, n, .cons h t => .cons ⟨_, _, rfl, rfl, h⟩ (all2_en (n + 1) t)
theorem ji_en (n0 : Nat) {rl : Rl (List α)} {r r' : Rl α} [l : Ls rl r] [k : Fz r r'] {f : S → Option (List α × S)} (h1 : JE Γ c f rl Γ1) : JI Γ (iEnD n0 c) (fun s => (f s).map fun p => (enT n0 p.1, p.2)) (rT2 rI r') Γ1 := fun s σ v s' hs e => by
 obtain ⟨⟨a, s1⟩, e1, e⟩ := mp e
 cases e
 obtain ⟨x, σ1, hx, rx, k1⟩ := h1 s σ a s1 hs e1
 obtain ⟨o, ds, rfl, h⟩ := l.l a x rx
 exact ⟨_, σ1, by simp only [iEnD, hx, bind_some], all2_en n0 (h.fz k.f), k1⟩
end TT
namespace TT
open PySem DD L2
variable {S α β γ : Type} {Γ Γ1 : Shp S} {c : DE}
end TT
namespace TT
open PySem L2 DD
section
variable {S : Type} {α β γ δ ρ : Type} {Γ Γ0 Γ1 Γ2 Γ3 Γ4 Γ' Γn Γh : Shp S} {c c' : DE} {t u : DT} {E : Ex S ρ} {P : Type}
noncomputable def twC (j : Int) : Bool := decide (0 ≤ j ∧ j ≤ 1000)
noncomputable def two (j : Int) : List Int := (List.range ((j.toNat + 1) / 2)).map fun (k : Nat) => 0 + (k : Int) * 2
theorem ji_tw {f : S → Option (Int × S)} (h : JE Γ c f rI Γ1) : JI Γ (iTwD (aCons (dS (pC (.int 0))) (aCons c (aCons (dS (pC (.int 2))) aNil)))) (fun s => (f s).bind fun p => if twC p.1 = true then some (two p.1, p.2) else none) rI Γ1 := by
 intro s σ v s' hs e
 obtain ⟨⟨a, s1⟩, e1, e⟩ := bd e
 dsimp only at e
 split at e
 ·rename_i hl
  cases e
  obtain ⟨d, σ1, h1, h2, h3⟩ := h s σ a _ hs e1
  cases h2
  have hl2 := of_decide_eq_true hl
  refine ⟨twoD a.toNat, σ1, ?_, ?_, h3⟩
  ·simp only [iTwD, aCons, aNil, dS, pC, D.sc, h1, bind_some, map_some]
   exact if_pos (by simpa using hl2)
  ·exact All2.ofMap (r := rI) (f := fun (k : Nat) => 0 + (k : Int) * 2) (g := fun (k : Nat) => D.int (0 + (k : Int) * 2)) (fun _ => rfl) _
 ·cases e
theorem js_selL {i : Nat} {get : S → List α} {r : Rl α} {a b : DS} {f : S → Option (TR S ρ)} (hi : Γ[i]? = some (some ⟨get, rL r⟩)) (h : JS Γ a f Γn E) : JS Γ (sSel (ownL i) a b) f Γn E := by
 intro s σ v hs e
 obtain ⟨d, hd, ds, rfl, h2⟩ := hs.get hi
 obtain ⟨o, ho, k⟩ := h s σ v hs e
 exact ⟨o, by simp only [sSel, ownL, hd, if_true, ho], k⟩
noncomputable def tLoopB (fb : α → S → Option (TR S ρ)) : List α → S → Option (TR S ρ)
 | [], s => some (.nx s)
 | x :: xs, s => (fb x s).bind fun o => match o with
  | .nx s2 => tLoopB fb xs s2
  | .ct s2 => tLoopB fb xs s2
  | .bk s2 => some (.nx s2)
  | .rt d s2 => some (.rt d s2)
noncomputable def TR.upd (f : S → S) : TR S ρ → TR S ρ
 | .nx s => .nx (f s)
 | .bk s => .bk (f s)
 | .ct s => .ct (f s)
 | .rt d s => .rt d (f s)
theorem gv_ok {x : Nat} {v : α} {r : Rl α} [k : Sc r] {Γ : Shp S} {s : S} {σ : DSt} (hx : x < Γ.length) (q : Sat (Γ.set x (some ⟨fun _ => v, r⟩)) s σ) : ∃ d, give x σ = (d, σ) ∧ r v d ∧ Sat (Γ.set x none) s σ := by
 obtain ⟨d, hd, rd⟩ := q.get (i := x) (l := Sl.mk (fun _ => v) r) (by rw [List.getElem?_set_self hx])
 obtain ⟨w, hw⟩ := k.s _ _ rd
 have q0 := On.setn (i := x) q
 rw [List.set_set] at q0
 exact ⟨d, by simp only [give, hd, hw], rd, q0⟩
theorem bl_ok {x : Nat} {r : Rl α} [k : Sc r] {b : DS} {fb : α → S → Option (TR S ρ)} {Γb : α → Shp S} {Γr : Shp S} {ro : Rl ρ} {lp : Shp S} (hx : x < Γh.length) (hxr : x < Γr.length) (hn : Γh.set x none = Γh) (hr : Γr.set x none = Γr)
  (hb : ∀ v, JS (Γh.set x (some ⟨fun _ => v, r⟩)) b (fb v) (Γb v) ⟨Γr.set x (some ⟨fun _ => v, r⟩), ro, Γh.set x (some ⟨fun _ => v, r⟩)⟩) (lb : ∀ v, Le (Γb v) (Γh.set x (some ⟨fun _ => v, r⟩))) :
  ∀ {xs : List α} {ds : List D}, All2 r xs ds → ∀ {s : S} {σ : DSt} {t : TR S ρ}, Sat Γh s σ → tLoopB fb xs s = some t → ∃ o zs, bLoop x b ds σ = some (o, zs) ∧ All2 r xs zs ∧ Rs Γh ⟨Γr, ro, lp⟩ t o := by
 intro xs ds h
 induction h with
 | nil => intro s σ t hs e; cases e; exact ⟨_, [], rfl, .nil, hs⟩
 | cons h1 h2 ih =>
  intro s σ t hs e
  rename_i a d0 as ds0
  simp only [tLoopB] at e
  obtain ⟨o, e1, e⟩ := bd e
  have k1 := hs.set (i := x) (l := some (Sl.mk (fun _ => a) r)) (o := some d0) ⟨d0, rfl, h1⟩
  obtain ⟨o', b1, r1⟩ := hb a s _ o k1 e1
  cases o with
  | nx s2 =>
   cases o' with
   | nx σ2 =>
    obtain ⟨d, g1, rd, q⟩ := gv_ok hx ((lb a).sat r1)
    rw [hn] at q
    obtain ⟨o2, zs, c1, c2, c3⟩ := ih q e
    exact ⟨o2, d :: zs, by simp only [bLoop, b1, bind_some, g1, c1, map_some], .cons rd c2, c3⟩
   | _ => exact r1.elim
  | ct s2 =>
   cases o' with
   | ct σ2 =>
    obtain ⟨d, g1, rd, q⟩ := gv_ok hx r1
    rw [hn] at q
    obtain ⟨o2, zs, c1, c2, c3⟩ := ih q e
    exact ⟨o2, d :: zs, by simp only [bLoop, b1, bind_some, g1, c1, map_some], .cons rd c2, c3⟩
   | _ => exact r1.elim
  | bk s2 =>
   cases e
   cases o' with
   | bk σ2 =>
    obtain ⟨d, g1, rd, q⟩ := gv_ok hx r1
    rw [hn] at q
    exact ⟨.nx σ2, d :: ds0, by simp only [bLoop, b1, bind_some, g1], .cons rd h2, q⟩
   | _ => exact r1.elim
  | rt v s2 =>
   cases e
   cases o' with
   | rt d' σ2 =>
    obtain ⟨hro, hq⟩ := r1
    obtain ⟨d, g1, rd, q⟩ := gv_ok hxr hq
    rw [hr] at q
    exact ⟨.rt d' σ2, d :: ds0, by simp only [bLoop, b1, bind_some, g1], .cons rd h2, hro, q⟩
   | _ => exact r1.elim
end
end TT
namespace TT
open PySem L2 DD
section
variable {S : Type} {α β γ δ ρ : Type} {Γ Γ0 Γ1 Γ2 Γ3 Γ4 Γ' Γn Γh : Shp S} {c c' : DE} {t u : DT} {E : Ex S ρ} {P : Type}
end
end TT
namespace TT
open PySem L2 DD
section
variable {S : Type} {α β γ δ ρ : Type} {Γ Γ0 Γ1 Γ2 Γ3 Γ4 Γ' Γn Γh : Shp S} {c c' : DE} {t u : DT} {E : Ex S ρ} {P : Type}
instance {α' β' : Type} {r : Rl α} {q : Rl β} {r' : Rl α'} {q' : Rl β'} [Py r] [Py q] [Py r'] [Py q'] {f : α → α' → Bool} {g : β → β' → Bool} [k : EqR r r' f] [l : EqR q q' g] : EqR (rT2 r q) (rT2 r' q') (fun a b => f a.1 b.1 && g a.2 b.2) := ⟨fun a b => by
 simp only [Py.pe, PyData.eqv, PyData.eqvAll, k.eqv, l.eqv, Bool.and_true]⟩
theorem je_extF (i : Nat) {get : S → List α} {put : S → List α → S} {rl ra : Rl (List α)} {q r r' : Rl α} [l : Ls rl q] [l2 : Ls ra r] [k : Fz r r'] {f : S → Option (List α × S)} (h : JE Γ c f ra Γ1) (h0 : Γ[i]? = some (some ⟨get, rl⟩)) (hi : Γ1[i]? = some (some ⟨get, rL r'⟩)) (hg : autoParam (∀ s v, get (put s v) = v) Ax7._auto_1) (hf : autoParam (∀ v, Fr (fun s => put s v) (Γ1.set i none)) Ax9._auto_1) :
  JE Γ (dExtF i c) (fun s => (f s).bind fun p => if szC ((get p.2).length + p.1.length) = true then some ((), put p.2 (get p.2 ++ p.1)) else none) rN (Γ1.set i (some ⟨get, rL r'⟩)) := by
 intro s σ v s' hs e
 obtain ⟨⟨a, s1⟩, e1, e⟩ := bd e
 dsimp only at e
 split at e
 ·rename_i hl
  have hl := szC_le hl
  cases e
  obtain ⟨x, σ1, hx, hrx, k1⟩ := h s σ a s1 hs e1
  obtain ⟨o, xs, ex, rx⟩ := l2.l _ _ hrx
  subst ex
  obtain ⟨d0, hd0, h00⟩ := hs.get h0
  obtain ⟨o0, ds0, e0, _⟩ := l.l _ _ h00
  subst e0
  obtain ⟨d, hd, ds, ed, h2⟩ := k1.get hi
  subst ed
  exact ⟨.non, _, by simp only [dExtF, hd0, hx, bind_some, hd, ← h2.len, ← rx.len, hl, if_true], rfl, k1.put hg hf ⟨_, rfl, h2.append (rx.fz k.f)⟩⟩
 ·cases e
end
end TT
namespace L2
open PySem PySem.Spec PyProof.Rows
section
variable {X : Cx}
noncomputable def rBlen : V → List V → Hp → VK → Prop := fun x vs H Q => ∃ i, x = .int i ∧ vs = [] ∧ Q (.int ((Builtin.Int.intBits i : Nat) : Int)) H
theorem mt_blen : MtR X "int.bit_length" rBlen := by
 intro pins s σ H x vs v us Q I rx rv h
 obtain ⟨i, ex, ev, q⟩ := h
 subst ex; subst ev
 obtain ⟨t, rfl⟩ := rx
 cases rv
 exact call_int_bit_length ⟨.int _, H, I.tok _, ⟨_, rfl⟩, q⟩
end
end L2
namespace DD
open PySem PySem.Spec PyProof.Rows L2
noncomputable def gBlen : D → Option D
 | .int i => some (.int ((Builtin.Int.intBits i : Nat) : Int))
 | _ => none
theorem gBlen_some {x d : D} (h : gBlen x = some d) : ∃ i, x = .int i ∧ d = .int ((Builtin.Int.intBits i : Nat) : Int) := by
 cases x <;> simp only [gBlen] at h <;> cases h
 exact ⟨_, rfl, rfl⟩
noncomputable def pBlen (p : DP) : DP := fun σ => (p σ).bind gBlen
section
variable {X : Cx} {a : Expr} {p : DP} {apos cpos : Pos}
theorem qb_blen (ha : QB X a p) (hbase : autoParam (attributeBase a "bit_length" X.env (eval a X.env) = eval a X.env) Ax4._auto_1) (hline : autoParam ((apos.endLine == cpos.line) = true) Ax4._auto_1) : QB X (.Call (.Attribute a "bit_length" apos) [] [] cpos) (pBlen p) :=
 PE_imp (pe_bm0 PySem.F.plainAttrs_int PySem.F.slot_int_bit_length PySem.F.type_int_bit_length mt_blen ha hbase hline) fun σ H Q hq0 => by
  obtain ⟨F, R, σD, d, r, ec, k⟩ := hq0
  unfold pBlen at ec
  rcases h1 : p σD with _ | x
  ·rw [h1] at ec; cases ec
  ·rw [h1] at ec; simp only [bind_some] at ec
   obtain ⟨i, rfl, rfl⟩ := gBlen_some ec
   refine ⟨F, R, σD, _, r, h1, fun F1 H1 v g1 b1 => ?_⟩
   have hv := b1.int
   subst hv
   exact ⟨rfl, i, rfl, rfl, k F1 H1 _ g1 ⟨[], Ow.of_sc rfl⟩⟩
end
end DD
namespace TT
open PySem L2 DD
section
variable {S : Type} {Γ : Shp S}
theorem jp_blen {p : DP} {f : S → Option Int} (h : JP Γ p f rI) : JP Γ (pBlen p) (fun s => (f s).map fun a => ((Builtin.Int.intBits a : Nat) : Int)) rI := by
 intro s σ v hs e
 obtain ⟨a, e1, e⟩ := mp e
 subst e
 obtain ⟨d, hd, rd⟩ := h s σ a hs e1
 cases rd
 exact ⟨_, by simp only [pBlen, hd, bind_some, gBlen], rfl⟩
end
end TT
namespace DD
open PySem PySem.Spec PyProof.Rows L2
section
variable {X : Cx} {b : Expr} {c : DE} {pos npos : Pos}
end
end DD
namespace TT
open PySem DD L2
variable {S α β γ : Type} {Γ Γ1 : Shp S} {c : DE}
end TT
namespace PySem.AutoSeq1
theorem add_any (l : Addr) (items : Array Value) (n : Nat) (sl1 : Array (Option Value)) (b : Addr) (items2 : Array Value) (n2 : Nat) (sl : Array (Option Value)) (hs2 : items.size + items2.size ≤ sizeLine) :
  Meets (Builtin.«list.__add__» ⟨[.ref l, .ref b], []⟩) (fun _ R s => s.heap.get? l = some { cls := .type "list", dict := none, data := .seq items n, slots := sl1 } ∧ s.heap.get? b = some { cls := .type "list", dict := none, data := .seq items2 n2, slots := sl } ∧ R (.ok (.ret (Value.ref s.heap.objs.size))) { s with heap := s.heap.push { cls := .type "list", data := .seq (items ++ items2) }, toks := s.toks }) :=
 .of_wp fun prog w A R s h => by
  obtain ⟨hp, g, d, tk, os⟩ := s; obtain ⟨hl, hb, h⟩ := h; have f1 := idx_int; have f2 := sub_tuple_tuple; have f3 := sub_list_list; have f4 := sub_tuple_list; have f5 := sub_list_tuple;
  have hz' : (items ++ items2).size ≤ sizeLine + 1 := by rw [Array.size_append]; omega
  have hlong : Builtin.List.listTooLong (items.size + items2.size) = false := L2.notLongL hs2
  wp_walk using wpAny_loadPart' hl, wpAny_loadPart' hb
  all_goals first | exact ⟨_, rfl, h⟩ | skip
end PySem.AutoSeq1
namespace L2
open PySem PySem.Spec PyProof.Rows
section
variable {X : Cx}
noncomputable def rCatF (K : PySem.W.Frag) : R2 := fun x y H Q => ∃ l b xs zs, x = .ref l ∧ y = .ref b ∧ SqL K H l xs ∧ SqL K H b zs ∧ xs.length + zs.length ≤ sizeLine ∧ ∀ p, H p = none → Q (.ref p) (upd H p (.lst (xs ++ zs)))
theorem op_catF : OpR X (binaryOp .Add) (rCatF X.K) := by
 intro pins s σ H x y v u Q I rx ry h
 obtain ⟨l, b, xs, zs, rfl, rfl, hH, hB, hz, q⟩ := h
 cases rx
 cases ry
 obtain ⟨its, r, ⟨o1, n1, e1, c1, d1, s1⟩, _⟩ := I.list hH
 obtain ⟨its2, r2, ⟨o2, n2, e2, c2, d2, s2⟩, _⟩ := I.list hB
 obtain ⟨oc, od, odt, osl⟩ := o1
 obtain ⟨pc, pd, pdt, psl⟩ := o2
 dsimp only at c1 d1 s1 c2 d2 s2
 subst c1; subst d1; subst s1; subst c2; subst d2; subst s2
 have hl1 := r.length
 have hl2 := r2.length
 have hsz : its.toArray.size + its2.toArray.size ≤ sizeLine := by rw [List.size_toArray, List.size_toArray]; omega
 refine wpAny_binaryOp_concat (T := "list") (id := "list.__add__") ⟨_, e1, rfl⟩ ⟨_, e2, rfl⟩ noFill_list_add (by rfl) ?_
 refine call_meets F.slot_list_add ⟨_, e1, rfl⟩ F.entry_list_add (F.args_list_add_2 _ _) (PySem.AutoSeq1.add_any l its.toArray n1 osl b its2.toArray n2 psl hsz) ⟨e1, e2, ?_⟩
 have ea : its.toArray ++ its2.toArray = (its ++ its2).toArray := by simp
 rw [ea]
 exact ⟨.ref _, _, I.lnew (t' := s.toks) (r.append r2) (by rw [List.length_append]; omega), rfl, q _ I.fresh⟩
end
end L2
namespace DD
open PySem PySem.Spec PyProof.Rows L2
noncomputable def dCatF (c c' : DE) : DE := fun σ => (c σ).bind fun p => (c' p.2).bind fun q => match p.1, q.1 with
 | .lst _ xs, .lst _ ys => if xs.length + ys.length ≤ sizeLine then some (.lst true (D.fzL xs ++ D.fzL ys), q.2) else none
 | _, _ => none
section
variable {X : Cx} {a b : Expr} {c c' : DE} {pos : Pos}
theorem qe_catF (ha : QE X a c) (hb : QE X b c') : QE X (.BinOp a .Add b pos) (dCatF c c') := PE_imp (pe_op op_catF ha hb) fun σ H Q hq0 => by
 obtain ⟨F, R, σD, d, σD', r, ec, k⟩ := hq0
 unfold dCatF at ec
 rcases h1 : c σD with _ | ⟨x, σ1⟩
 ·rw [h1] at ec; cases ec
 ·rw [h1] at ec; simp only [bind_some] at ec
  rcases h2 : c' σ1 with _ | ⟨y, σ2⟩
  ·rw [h2] at ec; cases ec
  ·rw [h2] at ec; simp only [bind_some] at ec
   split at ec
   ·rename_i o1 xs o2 ys
    split at ec
    ·rename_i hz
     cases ec
     refine ⟨F, R, σD, _, σ1, r, h1, fun F1 H1 v x1 r1 => ?_⟩
     refine ⟨F1, _, σ1, _, _, r1, h2, fun F2 H2 u x2 r2 => ?_⟩
     obtain ⟨F3, x3, r3, of3⟩ := r2.freeze
     obtain ⟨F4, x4, r4, of4⟩ := r3.pop.freeze
     have of3' := of3.mono x4 (fun a ha => by cases ha)
     simp only [D.fz, Ow] at of3' of4
     obtain ⟨l2, ws, rfl, fl2, ol2, _⟩ := of3'
     obtain ⟨l1, us, rfl, fl1, ol1, _⟩ := of4
     have hl1 := ol1.length
     have hl2 := ol2.length
     have hf1 := fzL_len xs
     have hf2 := fzL_len ys
     refine ⟨l1, l2, us, ws, rfl, rfl, fl1.sq, fl2.sq, by omega, fun p hp => ?_⟩
     have oc : OwL X.K F4 H2 (D.fzL xs ++ D.fzL ys) (us ++ ws) [] := OwL.app ol1 ol2
     obtain ⟨r5, x5⟩ := (Rel.pushL oc r4.pop).layL oc.length.symm hp
     exact k F4 _ _ ((x1.trans x2).trans ((x3.trans x4).trans x5)) r5
    ·cases ec
   ·cases ec
end
end DD
namespace TT
open PySem L2 DD
section
variable {S : Type} {α β γ δ ρ : Type} {Γ Γ0 Γ1 Γ2 Γ3 Γ4 Γ' Γn Γh : Shp S} {c c' : DE}
theorem je_catF {rl rl' : Rl (List α)} {r r' r1 : Rl α} [l : Ls rl r] [k : Fz r r'] [l1 : Ls rl' r1] [k1 : Fz r1 r'] {f g : S → Option (List α × S)} (h : JE Γ c f rl Γ1) (h' : JE Γ1 c' g rl' Γ2) :
  JE Γ (dCatF c c') (fun s => (f s).bind fun p => (g p.2).bind fun q => if szC (p.1.length + q.1.length) = true then some (p.1 ++ q.1, q.2) else none) (rL r') Γ2 := fun s σ v s' hs e => by
 obtain ⟨⟨a, s1⟩, e1, e⟩ := bd e
 obtain ⟨⟨b, s2⟩, e2, e⟩ := bd e
 dsimp only at e
 split at e
 ·rename_i hz
  cases e
  obtain ⟨d, σ1, h1, h2, h3⟩ := h s σ a s1 hs e1
  obtain ⟨d', σ2, h4, h5, h6⟩ := h' s1 σ1 b _ h3 e2
  obtain ⟨o, ds, rfl, ha⟩ := l.l a d h2
  obtain ⟨o', ds', rfl, ha'⟩ := l1.l b d' h5
  have hz' := szC_le hz
  have q1 := ha.len
  have q2 := ha'.len
  refine ⟨_, σ2, ?_, ⟨_, rfl, (ha.fz k.f).append (ha'.fz k1.f)⟩, h6⟩
  simp only [dCatF, h1, bind_some, h4]
  rw [if_pos (by omega)]
 ·cases e
end
end TT
namespace TT
open PySem L2 DD
section
variable {S : Type} {α β γ δ ρ : Type} {Γ Γ0 Γ1 Γ2 Γ3 Γ4 Γ' Γn Γh : Shp S} {c c' : DE} {E : Ex S ρ}
theorem js_forBn (i x : Nat) {get : S → List α} {put : S → List α → S} {r : Rl α} [k : Sc r] {b : DS} {fb : α → S → Option (TR S ρ)} {Γb : α → Shp S} (hi : Γ[i]? = some (some ⟨get, rL r⟩))
  (hb : ∀ v rt, JS ((Γ.set i none).set x (some ⟨fun _ => v, r⟩)) b (fb v) (Γb v) ⟨rt, E.ro, (Γ.set i none).set x (some ⟨fun _ => v, r⟩)⟩)
  (lb : autoParam (∀ v, Le (Γb v) ((Γ.set i none).set x (some ⟨fun _ => v, r⟩))) Ax13._auto_1)
  (hx : x < Γ.length) (hn : autoParam ((Γ.set i none).set x none = Γ.set i none) Ax4._auto_1)
  (hg : autoParam (∀ s v, get (put s v) = v) Ax7._auto_1) (hf : autoParam (∀ v, Fr (fun s => put s v) (Γ.set i none)) Ax9._auto_1) :
  JS Γ (sForB i x b) (fun s => (tLoopB fb (get s) s).map fun t => t.upd fun s2 => put s2 (get s)) Γ E := by
 intro s σ v hs e
 obtain ⟨t, e1, e2⟩ := mp e
 subst e2
 obtain ⟨d, hd, ds, rfl, h2⟩ := hs.get hi
 have h0 : Sat (Γ.set i none) s (σ.set i none) := hs.setn
 have hrep : ∀ n, (List.replicate n (none : Option (Sl S))).set x none = List.replicate n none := fun n => by
  apply List.ext_getElem?
  intro j
  rw [List.getElem?_set]
  simp only [List.length_replicate, List.getElem?_replicate]
  split
  ·split <;> simp_all
  ·rfl
 have go : ∀ n, x < n → ∃ o zs, bLoop x b ds (σ.set i none) = some (o, zs) ∧ All2 r (get s) zs ∧ Rs (Γ.set i none) ⟨List.replicate n none, E.ro, E.lp⟩ t o := fun n hnx =>
  bl_ok (lp := E.lp) (by simpa using hx) (by simpa using hnx) hn (hrep n) (fun v => hb v _) lb h2 h0 e1
 obtain ⟨o, zs, c1, c2, c3⟩ := go (x + 1) (by omega)
 obtain ⟨o', zs', c1', _, c3'⟩ := go (x + 2) (by omega)
 rw [c1] at c1'
 cases c1'
 have hG : Γ.set i (some ⟨get, rL r⟩) = Γ := by
  obtain ⟨hlt, he⟩ := List.getElem?_eq_some_iff.mp hi
  rw [← he, List.set_getElem_self hlt]
 refine ⟨o.upd fun σ2 => σ2.set i (some (.lst true zs)), ?_, ?_⟩
 ·simp only [sForB, hd, show x < σ.length by rw [hs.len]; exact hx, if_true, c1, map_some]
 ·cases t with
  | nx s2 =>
   cases o with
   | nx σ2 =>
    have q := Sat.put (i := i) (get := get) (put := put) (r := rL r) (v := get s) (d := .lst true zs) c3 hg (by rw [List.set_set]; exact hf) ⟨zs, rfl, c2⟩
    rw [List.set_set, hG] at q
    exact q
   | _ => exact c3.elim
  | rt w s2 =>
   cases o with
   | rt d' σ2 =>
    have l1 := c3.2.len
    have l2 := c3'.2.len
    simp only [List.length_replicate] at l1 l2
    omega
   | _ => exact c3.elim
  | bk s2 =>
   exfalso
   have : ∀ (xs : List α) (s : S), tLoopB fb xs s ≠ some (.bk s2) := by
    intro xs
    induction xs with
    | nil => intro s e; cases e
    | cons a as ih =>
     intro s e
     simp only [tLoopB] at e
     obtain ⟨o, e1, e⟩ := bd e
     cases o with
     | nx s3 => exact ih s3 e
     | ct s3 => exact ih s3 e
     | bk s3 => cases e
     | rt w s3 => cases e
   exact this _ _ e1
  | ct s2 =>
   exfalso
   have : ∀ (xs : List α) (s : S), tLoopB fb xs s ≠ some (.ct s2) := by
    intro xs
    induction xs with
    | nil => intro s e; cases e
    | cons a as ih =>
     intro s e
     simp only [tLoopB] at e
     obtain ⟨o, e1, e⟩ := bd e
     cases o with
     | nx s3 => exact ih s3 e
     | ct s3 => exact ih s3 e
     | bk s3 => cases e
     | rt w s3 => cases e
   exact this _ _ e1
end
end TT
namespace TT
open PySem L2 DD
section
variable {S α β ρ : Type}
theorem loop_ix {put : S → α → S} {b : S → Option (TR S ρ)} {I : Nat → S → Prop} {n : Nat} : ∀ {xs : List α} {s : S}, (∀ k s x, xs[k]? = some x → I (n + k) s → ∃ s', b (put s x) = some (.nx s') ∧ I (n + k + 1) s') → I n s → ∃ s', tLoop put b xs s = some (.nx s') ∧ I (n + xs.length) s' := by
 intro xs
 induction xs generalizing n with
 | nil => intro s _ h; exact ⟨s, rfl, h⟩
 | cons x xs ih =>
  intro s hb h
  obtain ⟨s1, e1, h1⟩ := hb 0 s x rfl h
  obtain ⟨s2, e2, h2⟩ := ih (n := n + 1) (fun k s y hy hi => by
   obtain ⟨s', q1, q2⟩ := hb (k + 1) s y (by simpa using hy) (by rw [show n + (k + 1) = n + 1 + k by omega]; exact hi)
   exact ⟨s', q1, by rw [show n + 1 + k + 1 = n + (k + 1) + 1 by omega]; exact q2⟩) h1
  exact ⟨s2, by simp only [tLoop, e1, bind_some, e2], by rw [List.length_cons, show n + (xs.length + 1) = n + 1 + xs.length by omega]; exact h2⟩
theorem loop_fold {put : S → α → S} {b : S → Option (TR S ρ)} {γ : Type} {v : S → γ} {f : γ → α → γ} {I : S → Prop} {J : γ → Prop} : ∀ {xs : List α} {s : S}, (∀ s x, x ∈ xs → I s → J (v s) → ∃ s', b (put s x) = some (.nx s') ∧ I s' ∧ v s' = f (v s) x) → (∀ c x, x ∈ xs → J c → J (f c x)) → I s → J (v s) → ∃ s', tLoop put b xs s = some (.nx s') ∧ I s' ∧ v s' = xs.foldl f (v s)
 | [], s, _, _, h, _ => ⟨s, rfl, h, rfl⟩
 | x :: xs, s, hb, hj, h, j => by
  obtain ⟨s1, e1, h1, v1⟩ := hb s x (by simp) h j
  obtain ⟨s2, e2, h2, v2⟩ := loop_fold (xs := xs) (fun s y hy => hb s y (by simp [hy])) (fun c y hy => hj c y (by simp [hy])) h1 (by rw [v1]; exact hj _ _ (by simp) j)
  exact ⟨s2, by simp only [tLoop, e1, bind_some, e2], h2, by rw [v2, v1]; rfl⟩
theorem lc_map {ft : α → S → Option (Bool × S)} {fe : α → S → Option (β × S)} {s : S} {f : α → β} : ∀ {xs : List α}, (∀ x ∈ xs, ft x s = some (true, s)) → (∀ x ∈ xs, fe x s = some (f x, s)) → tLc ft fe xs s = some (xs.map f, s) := by
 intro xs
 induction xs with
 | nil => intro _ _; rfl
 | cons x xs ih =>
  intro h k
  have ih := ih (fun y hy => h y (List.mem_cons_of_mem _ hy)) (fun y hy => k y (List.mem_cons_of_mem _ hy))
  simp only [tLc, h x List.mem_cons_self, bind_some, if_true, k x List.mem_cons_self, ih, map_some, List.map_cons]
theorem lc_filter {ft : α → S → Option (Bool × S)} {fe : α → S → Option (β × S)} {s : S} {f : α → β} {p : α → Bool} : ∀ {xs : List α}, (∀ x ∈ xs, ft x s = some (p x, s)) → (∀ x ∈ xs, p x = true → fe x s = some (f x, s)) → tLc ft fe xs s = some ((xs.filter p).map f, s) := by
 intro xs
 induction xs with
 | nil => intro _ _; rfl
 | cons x xs ih =>
  intro h k
  have ih := ih (fun y hy => h y (List.mem_cons_of_mem _ hy)) (fun y hy => k y (List.mem_cons_of_mem _ hy))
  cases hp : p x
  ·rw [List.filter_cons_of_neg (by rw [hp]; decide)]
   simp only [tLc, h x List.mem_cons_self, bind_some, hp, Bool.false_eq_true, if_false, ih]
  ·rw [List.filter_cons_of_pos hp]
   simp only [tLc, h x List.mem_cons_self, bind_some, hp, if_true, k x List.mem_cons_self hp, ih, map_some, List.map_cons]
theorem okI {a b : Int} : (Py.ok rI a && Py.ok rI b && decide (min (Py.k rI) (Py.k rI) ≤ 50)) = true := rfl
theorem all_true {xs : List α} : (xs.all fun _ => true) = true := by simp
theorem okLL {a b : List Int} : (Py.ok (rL rI) a && Py.ok (rL rI) b && decide (min (Py.k (rL rI)) (Py.k (rL rI)) ≤ 50)) = true := by
 show ((a.all fun _ => true) && (b.all fun _ => true) && decide (min (0 + 1) (0 + 1) ≤ 50)) = true
 rw [all_true, all_true]; rfl
theorem eqL_self {f : α → α → Bool} (h : ∀ a, f a a = true) : ∀ xs : List α, eqL f xs xs = true
 | [] => rfl
 | x :: xs => by simp only [eqL, h, eqL_self h xs, Bool.and_self]
theorem ift {c : Bool} {a b : α} (h : c = true) : (if c = true then a else b) = a := if_pos h
theorem szn {n : Nat} (h : n ≤ 1000) : n ≤ sizeLine := Nat.le_of_lt (L2.small1000 h)
theorem szl' {n : Nat} (h : n ≤ 1000) : n < sizeLine := L2.small1000 h
theorem szc {n : Nat} (h : n ≤ 1000) : szC n = true := decide_eq_true (szn h)
theorem ltc {n : Nat} (h : n ≤ 1000) : ltC n = true := decide_eq_true (szl' h)
theorem at_nat {xs : List α} {j : Nat} (h : j < xs.length) : atI xs (j : Int) = some xs[j] := L2.atI_nat (by simp [h])
theorem rok {z : Int} (h0 : -1000000 ≤ z) (h1 : z ≤ 1000000) : rokC z = true := by
 simp only [rokC, Nat.ble_eq]
 omega
theorem mulc {x y : Int} (h : (-9223372036854775808 ≤ x ∧ x ≤ 9223372036854775808) ∨ (-9223372036854775808 ≤ y ∧ y ≤ 9223372036854775808)) : mulN x y = true := by
 simp only [mulN, Bool.or_eq_true, Nat.ble_eq]; omega
theorem fdvc {x : Int} {y : Int} (h : decide (0 < y ∧ y.natAbs.log2 < 9000) = true) : fdvC x y = true := h
theorem loop_bind {put : S → α → S} {b : S → Option (TR S ρ)} {xs : List α} {s : S} {γ : Type} {k : TR S ρ → Option γ} {R : Option γ} {P : S → Prop} (h : ∃ s', tLoop put b xs s = some (.nx s') ∧ P s') (hk : ∀ s', P s' → k (.nx s') = R) : (tLoop put b xs s).bind k = R := by
 obtain ⟨a, e, p⟩ := h
 rw [e]; exact hk a p
theorem loop_bindE {put : S → α → S} {b : S → Option (TR S ρ)} {xs : List α} {s : S} {γ : Type} {k : TR S ρ → Option γ} {P : S → Prop} (Q : Option γ → Prop) (h : ∃ s', tLoop put b xs s = some (.nx s') ∧ P s') (hk : ∀ s', P s' → Q (k (.nx s'))) : Q ((tLoop put b xs s).bind k) := by
 obtain ⟨a, e, p⟩ := h
 rw [e]; exact hk a p
theorem loop_ixP {put : S → α → S} {b : S → Option (TR S ρ)} {P : S → Prop} {xs : List α} {s : S} (I : Nat → S → Prop) (h0 : I 0 s) (hb : ∀ k s x, xs[k]? = some x → I k s → ∃ s', b (put s x) = some (.nx s') ∧ I (k + 1) s') (hP : ∀ s', I xs.length s' → P s') : ∃ s', tLoop put b xs s = some (.nx s') ∧ P s' := by
 obtain ⟨s', e, h⟩ := loop_ix (n := 0) (I := I) (fun k s x hx hi => by
  rw [Nat.zero_add] at hi ⊢
  exact hb k s x hx hi) h0
 rw [Nat.zero_add] at h
 exact ⟨s', e, hP s' h⟩
theorem holds_of {g : GF} {h : List Int × Unit → Option (Bool × List Int × Unit)} {r : Rl (List Int)} (j : JF g h (Pc (rM rI) Pn) rB (Pc r Pn)) (ht : ∀ ns : List Int, ns.length ≤ 63 → ∃ q, h (ns, ()) = some (true, q)) : ∀ ns : List Int, ns.length ≤ 63 → ∃ d, g [.lst false (ns.map D.int)] = some (.bl true, [d]) := fun ns hl => by
 obtain ⟨q, e⟩ := ht ns hl
 obtain ⟨d, ds', h1, h2, d', ds2, h3, _, h4⟩ := j (ns, ()) [.lst false (ns.map D.int)] true q ⟨_, [], rfl, ⟨false, _, rfl, rI_map ns⟩, rfl⟩ e
 cases h2
 rw [show ds2 = [] from h4] at h3
 exact ⟨d', by rw [h1, h3]⟩
end
end TT
namespace RK
noncomputable def spans : List Nat → List Nat
 | [] => [0]
 | r :: rs => spans rs ++ (spans rs).map (r ^^^ ·)
theorem spans_zero : ∀ rs, 0 ∈ spans rs := by
 intro rs
 induction rs with
 | nil => simp [spans]
 | cons r rs ih => simp only [spans, List.mem_append]; exact .inl ih
theorem spans_row {r : Nat} : ∀ {rs : List Nat}, r ∈ rs → r ∈ spans rs := by
 intro rs
 induction rs with
 | nil => intro h; cases h
 | cons a rs ih =>
  intro h
  simp only [spans, List.mem_append, List.mem_map]
  rcases List.mem_cons.mp h with rfl | h
  ·exact .inr ⟨0, spans_zero rs, by simp⟩
  ·exact .inl (ih h)
theorem spans_xor : ∀ {rs : List Nat} {x y : Nat}, x ∈ spans rs → y ∈ spans rs → x ^^^ y ∈ spans rs := by
 intro rs
 induction rs with
 | nil => intro x y hx hy; simp only [spans, List.mem_singleton] at hx hy; subst hx; subst hy; simp [spans]
 | cons r rs ih =>
  intro x y hx hy
  simp only [spans, List.mem_append, List.mem_map] at hx hy ⊢
  rcases hx with hx | ⟨a, ha, rfl⟩
  ·rcases hy with hy | ⟨b, hb, rfl⟩
   ·exact .inl (ih hx hy)
   ·exact .inr ⟨x ^^^ b, ih hx hb, by rw [← Nat.xor_assoc, ← Nat.xor_assoc, Nat.xor_comm r x]⟩
  ·rcases hy with hy | ⟨b, hb, rfl⟩
   ·exact .inr ⟨a ^^^ y, ih ha hy, by rw [Nat.xor_assoc]⟩
   ·refine .inl ?_
    have e : r ^^^ a ^^^ (r ^^^ b) = a ^^^ b := by
     rw [Nat.xor_comm r a, Nat.xor_assoc, ← Nat.xor_assoc r r b, Nat.xor_self, Nat.zero_xor]
    rw [e]; exact ih ha hb
theorem spans_sub {rs ss : List Nat} (h : ∀ r ∈ rs, r ∈ spans ss) : ∀ {x}, x ∈ spans rs → x ∈ spans ss := by
 induction rs with
 | nil => intro x hx; simp only [spans, List.mem_singleton] at hx; subst hx; exact spans_zero ss
 | cons r rs ih =>
  intro x hx
  simp only [spans, List.mem_append, List.mem_map] at hx
  rcases hx with hx | ⟨a, ha, rfl⟩
  ·exact ih (fun q hq => h q (by simp [hq])) hx
  ·exact spans_xor (h r (by simp)) (ih (fun q hq => h q (by simp [hq])) ha)
noncomputable def Tri : List (Nat × Nat) → Prop
 | [] => True
 | b :: bs => b.2.testBit b.1 = true ∧ (∀ c ∈ bs, c.2.testBit b.1 = false) ∧ Tri bs
theorem spans_bit {t : Nat} : ∀ {rs : List Nat} {x : Nat}, (∀ r ∈ rs, r.testBit t = false) → x ∈ spans rs → x.testBit t = false := by
 intro rs
 induction rs with
 | nil => intro x _ hx; simp only [spans, List.mem_singleton] at hx; subst hx; simp
 | cons r rs ih =>
  intro x h hx
  simp only [spans, List.mem_append, List.mem_map] at hx
  rcases hx with hx | ⟨a, ha, rfl⟩
  ·exact ih (fun q hq => h q (by simp [hq])) hx
  ·rw [Nat.testBit_xor, h r (by simp), ih (fun q hq => h q (by simp [hq])) ha]; rfl
theorem tri_zero : ∀ {bs : List (Nat × Nat)} {x : Nat}, Tri bs → x ∈ spans (bs.map (·.2)) → (∀ b ∈ bs, x.testBit b.1 = false) → x = 0 := by
 intro bs
 induction bs with
 | nil => intro x _ hx _; simpa [spans] using hx
 | cons b bs ih =>
  intro x ht hx hb
  obtain ⟨h1, h2, h3⟩ := ht
  simp only [List.map_cons, spans, List.mem_append, List.mem_map] at hx
  rcases hx with hx | ⟨y, hy, rfl⟩
  ·exact ih h3 hx fun c hc => hb c (by simp [hc])
  ·exfalso
   have h4 := hb b (by simp)
   have h5 := spans_bit (t := b.1) (fun r hr => by obtain ⟨c, hc, rfl⟩ := List.mem_map.mp hr; exact h2 c hc) hy
   rw [Nat.testBit_xor, h1, h5] at h4
   cases h4
theorem red_zero {bs : List (Nat × Nat)} (ht : Tri bs) {x z : Nat} (hs : x ^^^ z ∈ spans (bs.map (·.2))) (hz : ∀ b ∈ bs, z.testBit b.1 = false) : z = 0 ↔ x ∈ spans (bs.map (·.2)) := by
 constructor
 ·intro h; subst h; simpa using hs
 ·intro h
  refine tri_zero ht ?_ hz
  have e : x ^^^ (x ^^^ z) = z := by rw [← Nat.xor_assoc, Nat.xor_self, Nat.zero_xor]
  rw [← e]; exact spans_xor h hs
end RK
namespace RK
noncomputable def gr (done : List Nat) : List Nat → Nat
 | [] => 0
 | m :: ms => (if m ∈ spans done then 0 else 1) + gr (m :: done) ms
theorem top_bit {r : Nat} (h : r ≠ 0) : r.testBit r.log2 = true := by
 rw [Nat.testBit_eq_decide_div_mod_eq, decide_eq_true_eq]
 have h1 := Nat.log2_self_le h
 have h2 : r < 2 ^ (r.log2 + 1) := Nat.lt_log2_self
 rw [Nat.pow_succ] at h2
 have h3 : r / 2 ^ r.log2 = 1 := by
  apply Nat.div_eq_of_lt_le
  ·omega
  ·omega
 rw [h3]
theorem bit_lt {n m i : Nat} (hn : n.testBit i = false) (hm : m.testBit i = true) (h : ∀ j, i < j → n.testBit j = m.testBit j) : n < m := by
 have e : n / 2 ^ (i + 1) = m / 2 ^ (i + 1) := by
  apply Nat.eq_of_testBit_eq
  intro j
  rw [Nat.testBit_div_two_pow, Nat.testBit_div_two_pow]
  exact h _ (by omega)
 rw [Nat.testBit_eq_decide_div_mod_eq] at hn hm
 have hn1 := of_decide_eq_false hn
 have hm1 := of_decide_eq_true hm
 have n1 := Nat.mod_pow_succ (x := n) (b := 2) (k := i)
 have m1 := Nat.mod_pow_succ (x := m) (b := 2) (k := i)
 have hn2 : n / 2 ^ i % 2 = 0 := by omega
 rw [hn2, Nat.mul_zero] at n1
 rw [hm1, Nat.mul_one] at m1
 have n2 := Nat.mod_lt n (show 0 < 2 ^ i from Nat.pow_pos (by decide))
 have n3 := Nat.div_add_mod n (2 ^ (i + 1))
 have m3 := Nat.div_add_mod m (2 ^ (i + 1))
 rw [e] at n3
 omega
theorem min_bit {m r : Nat} (h : r ≠ 0) : (min m (m ^^^ r)).testBit r.log2 = false := by
 have ht := top_bit h
 have hi : ∀ j, r.log2 < j → r.testBit j = false := fun j hj => Nat.testBit_lt_two_pow (Nat.lt_of_lt_of_le (Nat.lt_log2_self) (Nat.pow_le_pow_right (by decide) hj))
 cases hm : m.testBit r.log2
 ·have hlt : m < m ^^^ r := bit_lt (i := r.log2) hm (by rw [Nat.testBit_xor, hm, ht]; rfl) fun j hj => by rw [Nat.testBit_xor, hi j hj]; simp
  rw [Nat.min_eq_left (Nat.le_of_lt hlt)]; exact hm
 ·have hlt : m ^^^ r < m := bit_lt (i := r.log2) (by rw [Nat.testBit_xor, hm, ht]; rfl) hm fun j hj => by rw [Nat.testBit_xor, hi j hj]; simp
  rw [Nat.min_eq_right (Nat.le_of_lt hlt), Nat.testBit_xor, hm, ht]; rfl
theorem min_keep {m r t : Nat} (h1 : m.testBit t = false) (h2 : r.testBit t = false) : (min m (m ^^^ r)).testBit t = false := by
 rcases Nat.le_total m (m ^^^ r) with h | h
 ·rw [Nat.min_eq_left h]; exact h1
 ·rw [Nat.min_eq_right h, Nat.testBit_xor, h1, h2]; rfl
noncomputable def lawRed (rows : List Nat) (x : Nat) : Nat := rows.foldl (fun m r => min m (m ^^^ r)) x
noncomputable def prs (rows : List Nat) : List (Nat × Nat) := rows.map fun r => (r.log2, r)
theorem prs_map (rows : List Nat) : (prs rows).map (·.2) = rows := by
 unfold prs; rw [List.map_map]; exact List.map_id' rows
theorem red_span : ∀ (rows : List Nat) (x : Nat), x ^^^ lawRed rows x ∈ spans rows := by
 intro rows
 induction rows with
 | nil => intro x; simp [lawRed, spans]
 | cons r rows ih =>
  intro x
  have h := ih (min x (x ^^^ r))
  simp only [lawRed, List.foldl_cons] at h ⊢
  simp only [spans, List.mem_append, List.mem_map]
  rcases Nat.le_total x (x ^^^ r) with hm | hm
  ·rw [Nat.min_eq_left hm] at h ⊢; exact .inl h
  ·rw [Nat.min_eq_right hm] at h ⊢
   refine .inr ⟨_, h, ?_⟩
   rw [← Nat.xor_assoc, ← Nat.xor_assoc, Nat.xor_comm r x, Nat.xor_assoc x r r, Nat.xor_self, Nat.xor_zero]
theorem red_keep {t : Nat} : ∀ (rows : List Nat) (x : Nat), x.testBit t = false → (∀ r ∈ rows, r.testBit t = false) → (lawRed rows x).testBit t = false := by
 intro rows
 induction rows with
 | nil => intro x h _; exact h
 | cons r rows ih =>
  intro x h hr
  simp only [lawRed, List.foldl_cons]
  exact ih _ (min_keep h (hr r (by simp))) fun q hq => hr q (by simp [hq])
theorem red_bits : ∀ (rows : List Nat) (x : Nat), Tri (prs rows) → (∀ r ∈ rows, r ≠ 0) → ∀ b ∈ prs rows, (lawRed rows x).testBit b.1 = false := by
 intro rows
 induction rows with
 | nil => intro x _ _ b hb; cases hb
 | cons r rows ih =>
  intro x ht h0 b hb
  obtain ⟨h1, h2, h3⟩ := ht
  simp only [lawRed, List.foldl_cons]
  rcases List.mem_cons.mp hb with rfl | hb
  ·exact red_keep rows _ (min_bit (h0 r (by simp))) fun q hq => h2 (q.log2, q) (List.mem_map.mpr ⟨q, hq, rfl⟩)
  ·exact ih _ h3 (fun q hq => h0 q (by simp [hq])) b hb
theorem tri_snoc {b : Nat × Nat} : ∀ {bs : List (Nat × Nat)}, Tri bs → b.2.testBit b.1 = true → (∀ c ∈ bs, b.2.testBit c.1 = false) → Tri (bs ++ [b]) := by
 intro bs
 induction bs with
 | nil => intro _ h1 _; exact ⟨h1, (fun c hc => by cases hc), trivial⟩
 | cons c bs ih =>
  intro ht h1 h2
  obtain ⟨t1, t2, t3⟩ := ht
  refine ⟨t1, ?_, ih t3 h1 fun d hd => h2 d (by simp [hd])⟩
  intro d hd
  have hd : d ∈ bs ++ [b] := hd
  rw [List.mem_append, List.mem_singleton] at hd
  rcases hd with hd | rfl
  ·exact t2 d hd
  ·exact h2 c (by simp)
noncomputable def lawStep (rows : List Nat) (m : Nat) : List Nat := if lawRed rows m > 0 then rows ++ [lawRed rows m] else rows
theorem spans_same {rs ss : List Nat} (h1 : ∀ r ∈ rs, r ∈ spans ss) (h2 : ∀ s ∈ ss, s ∈ spans rs) (x : Nat) : x ∈ spans rs ↔ x ∈ spans ss := ⟨spans_sub h1, spans_sub h2⟩
theorem law_gr : ∀ (ms done rows : List Nat), Tri (prs rows) → (∀ r ∈ rows, r ≠ 0) → (∀ r ∈ rows, r ∈ spans done) → (∀ d ∈ done, d ∈ spans rows) → (ms.foldl lawStep rows).length = rows.length + gr done ms := by
 intro ms
 induction ms with
 | nil => intro done rows _ _ _ _; simp [gr]
 | cons m ms ih =>
  intro done rows ht h0 h1 h2
  rw [List.foldl_cons]
  have hsp := red_span rows m
  have hz := red_bits rows m ht h0
  have key : lawRed rows m = 0 ↔ m ∈ spans rows := by
   have := red_zero ht (x := m) (z := lawRed rows m) (by rw [prs_map]; exact hsp) hz
   rw [prs_map] at this
   exact this
  have hsame := spans_same h1 h2
  have hd : ∀ r ∈ rows, r ∈ spans (m :: done) := fun r hr => by simp only [spans, List.mem_append]; exact .inl (h1 r hr)
  by_cases hm : m ∈ spans done
  ·have e0 := key.mpr ((hsame m).mpr hm)
   have es : lawStep rows m = rows := by unfold lawStep; rw [e0]; rfl
   rw [es, ih (m :: done) rows ht h0 hd (fun d hdd => by
    rcases List.mem_cons.mp hdd with rfl | hdd
    ·exact (hsame _).mpr hm
    ·exact h2 d hdd)]
   simp only [gr, hm, if_true]; omega
  ·have e0 : lawRed rows m ≠ 0 := fun h => hm ((hsame m).mp (key.mp h))
   have es : lawStep rows m = rows ++ [lawRed rows m] := by unfold lawStep; rw [if_pos (by omega)]
   have hmz : m = (m ^^^ lawRed rows m) ^^^ lawRed rows m := by rw [Nat.xor_assoc, Nat.xor_self, Nat.xor_zero]
   have sub : ∀ r ∈ rows, r ∈ spans (rows ++ [lawRed rows m]) := fun r hr => spans_row (by simp [hr])
   rw [es, ih (m :: done) _ (by
    unfold prs
    rw [List.map_append]
    exact tri_snoc ht (top_bit e0) hz) (fun r hr => by
     rw [List.mem_append, List.mem_singleton] at hr
     rcases hr with hr | rfl
     ·exact h0 r hr
     ·exact e0) (fun r hr => by
     rw [List.mem_append, List.mem_singleton] at hr
     rcases hr with hr | rfl
     ·exact hd r hr
     ·have a1 : m ^^^ lawRed rows m ∈ spans (m :: done) := spans_sub hd hsp
      have a2 : m ∈ spans (m :: done) := spans_row (by simp)
      have e : m ^^^ (m ^^^ lawRed rows m) = lawRed rows m := by rw [← Nat.xor_assoc, Nat.xor_self, Nat.zero_xor]
      rw [← e]; exact spans_xor a2 a1) (fun d hdd => by
     rcases List.mem_cons.mp hdd with rfl | hdd
     ·have a1 := spans_sub sub hsp
      have a2 : lawRed rows d ∈ spans (rows ++ [lawRed rows d]) := spans_row (by simp)
      have a3 := spans_xor a1 a2
      rwa [Nat.xor_assoc, Nat.xor_self, Nat.xor_zero] at a3
     ·exact spans_sub sub (h2 d hdd))]
   simp only [gr, hm, if_false, List.length_append, List.length_singleton]; omega
theorem law_rank (ms : List Nat) : (ms.foldl lawStep []).length = gr [] ms := by
 have := law_gr ms [] [] trivial (fun r hr => by cases hr) (fun r hr => by cases hr) (fun d hd => by cases hd)
 simpa using this
end RK
namespace RK
noncomputable def lsRed (ls : List (Nat × Nat)) (x : Nat) : Nat := ls.foldl (fun m l => if m.testBit l.1 = true then m ^^^ l.2 else m) x
noncomputable def Rd (ls : List (Nat × Nat)) : Prop := (∀ l ∈ ls, l.2.testBit l.1 = true) ∧ ls.Pairwise fun a b => a.2.testBit b.1 = false ∧ b.2.testBit a.1 = false
theorem Rd.tri : ∀ {ls : List (Nat × Nat)}, Rd ls → Tri ls := by
 intro ls
 induction ls with
 | nil => intro _; trivial
 | cons l ls ih =>
  intro h
  obtain ⟨h1, h2⟩ := h
  rw [List.pairwise_cons] at h2
  exact ⟨h1 l (by simp), fun c hc => (h2.1 c hc).2, ih ⟨fun c hc => h1 c (by simp [hc]), h2.2⟩⟩
theorem ls_span : ∀ (ls : List (Nat × Nat)) (x : Nat), x ^^^ lsRed ls x ∈ spans (ls.map (·.2)) := by
 intro ls
 induction ls with
 | nil => intro x; simp [lsRed, spans]
 | cons l ls ih =>
  intro x
  simp only [lsRed, List.foldl_cons, List.map_cons, spans, List.mem_append, List.mem_map]
  by_cases h : x.testBit l.1 = true
  ·rw [if_pos h]
   refine .inr ⟨_, ih (x ^^^ l.2), ?_⟩
   simp only [lsRed]
   rw [← Nat.xor_assoc, ← Nat.xor_assoc, Nat.xor_comm l.2 x, Nat.xor_assoc x l.2 l.2, Nat.xor_self, Nat.xor_zero]
  ·rw [if_neg h]; exact .inl (ih x)
theorem ls_keep {t : Nat} : ∀ (ls : List (Nat × Nat)) (x : Nat), x.testBit t = false → (∀ l ∈ ls, l.2.testBit t = false) → (lsRed ls x).testBit t = false := by
 intro ls
 induction ls with
 | nil => intro x h _; exact h
 | cons l ls ih =>
  intro x h hr
  simp only [lsRed, List.foldl_cons]
  refine ih _ ?_ fun q hq => hr q (by simp [hq])
  split
  ·rw [Nat.testBit_xor, h, hr l (by simp)]; rfl
  ·exact h
theorem ls_bits : ∀ (ls : List (Nat × Nat)) (x : Nat), Tri ls → ∀ b ∈ ls, (lsRed ls x).testBit b.1 = false := by
 intro ls
 induction ls with
 | nil => intro x _ b hb; cases hb
 | cons l ls ih =>
  intro x ht b hb
  obtain ⟨h1, h2, h3⟩ := ht
  simp only [lsRed, List.foldl_cons]
  rcases List.mem_cons.mp hb with rfl | hb
  ·refine ls_keep ls _ ?_ fun q hq => h2 q hq
   split
   ·rename_i h; rw [Nat.testBit_xor, h, h1]; rfl
   ·rename_i h; simpa using h
  ·exact ih _ h3 b hb
noncomputable def chg (m : Nat) (l : Nat × Nat) : Nat × Nat := if l.2.testBit m.log2 = true then (l.1, l.2 ^^^ m) else l
theorem chg1 (m : Nat) (l : Nat × Nat) : (chg m l).1 = l.1 := by unfold chg; split <;> rfl
theorem chg_bit {m : Nat} {l : Nat × Nat} {t : Nat} (h : m.testBit t = false) : (chg m l).2.testBit t = l.2.testBit t := by
 unfold chg
 split
 ·rw [Nat.testBit_xor, h]; simp
 ·rfl
theorem chg_top {m : Nat} {l : Nat × Nat} (h : m ≠ 0) : (chg m l).2.testBit m.log2 = false := by
 unfold chg
 split
 ·rename_i h1; rw [Nat.testBit_xor, h1, top_bit h]; rfl
 ·rename_i h1; simpa using h1
noncomputable def withL (ls : List (Nat × Nat)) (m : Nat) : List (Nat × Nat) := ls.map (chg m) ++ [(m.log2, m)]
theorem with_rd {ls : List (Nat × Nat)} {m : Nat} (h : Rd ls) (h0 : m ≠ 0) (hb : ∀ l ∈ ls, m.testBit l.1 = false) : Rd (withL ls m) := by
 obtain ⟨h1, h2⟩ := h
 constructor
 ·intro l hl
  unfold withL at hl
  rw [List.mem_append, List.mem_singleton] at hl
  rcases hl with hl | rfl
  ·obtain ⟨k, hk, rfl⟩ := List.mem_map.mp hl
   rw [chg1, chg_bit (hb k hk)]; exact h1 k hk
  ·exact top_bit h0
 ·unfold withL
  rw [List.pairwise_append]
  refine ⟨?_, List.pairwise_singleton _ _, ?_⟩
  ·rw [List.pairwise_map]
   refine (List.Pairwise.and_mem.mp h2).imp ?_
   rintro a b ⟨ha, hb2, q1, q2⟩
   rw [chg1, chg1, chg_bit (hb b hb2), chg_bit (hb a ha)]
   exact ⟨q1, q2⟩
  ·intro a ha b hb2
   rw [List.mem_singleton] at hb2
   subst hb2
   obtain ⟨k, hk, rfl⟩ := List.mem_map.mp ha
   refine ⟨chg_top h0, ?_⟩
   rw [chg1]; exact hb k hk
noncomputable def lsStep (ls : List (Nat × Nat)) (m : Nat) : List (Nat × Nat) := if lsRed ls m ≠ 0 then withL ls (lsRed ls m) else ls
theorem with_new (ls : List (Nat × Nat)) (m : Nat) : m ∈ spans ((withL ls m).map (·.2)) := spans_row (by unfold withL; simp)
theorem with_old (ls : List (Nat × Nat)) (m : Nat) : ∀ r ∈ ls.map (·.2), r ∈ spans ((withL ls m).map (·.2)) := by
 intro r hr
 obtain ⟨l, hl, rfl⟩ := List.mem_map.mp hr
 have h1 : (chg m l).2 ∈ spans ((withL ls m).map (·.2)) := spans_row (List.mem_map.mpr ⟨chg m l, by unfold withL; simp only [List.mem_append, List.mem_map]; exact .inl ⟨l, hl, rfl⟩, rfl⟩)
 by_cases h : l.2.testBit m.log2 = true
 ·have e : (chg m l).2 = l.2 ^^^ m := by unfold chg; rw [if_pos h]
  rw [e] at h1
  have h3 := spans_xor h1 (with_new ls m)
  rwa [Nat.xor_assoc, Nat.xor_self, Nat.xor_zero] at h3
 ·have e : (chg m l).2 = l.2 := by unfold chg; rw [if_neg h]
  rw [e] at h1; exact h1
theorem with_in {ls : List (Nat × Nat)} {m : Nat} {ss : List Nat} (h1 : ∀ r ∈ ls.map (·.2), r ∈ spans ss) (h2 : m ∈ spans ss) : ∀ r ∈ (withL ls m).map (·.2), r ∈ spans ss := by
 intro r hr
 obtain ⟨l, hl, rfl⟩ := List.mem_map.mp hr
 unfold withL at hl
 rw [List.mem_append, List.mem_singleton] at hl
 rcases hl with hl | rfl
 ·obtain ⟨k, hk, rfl⟩ := List.mem_map.mp hl
  have hk2 := h1 k.2 (List.mem_map.mpr ⟨k, hk, rfl⟩)
  unfold chg
  split
  ·exact spans_xor hk2 h2
  ·exact hk2
 ·exact h2
theorem ls_gr : ∀ (ms done : List Nat) (ls : List (Nat × Nat)), Rd ls → (∀ r ∈ ls.map (·.2), r ∈ spans done) → (∀ d ∈ done, d ∈ spans (ls.map (·.2))) → (ms.foldl lsStep ls).length = ls.length + gr done ms := by
 intro ms
 induction ms with
 | nil => intro done ls _ _ _; simp [gr]
 | cons m ms ih =>
  intro done ls hr h1 h2
  rw [List.foldl_cons]
  have hsp := ls_span ls m
  have hz := ls_bits ls m hr.tri
  have key := red_zero hr.tri (x := m) (z := lsRed ls m) hsp hz
  have hsame := spans_same h1 h2
  have hd : ∀ r ∈ ls.map (·.2), r ∈ spans (m :: done) := fun r hr => by simp only [spans, List.mem_append]; exact .inl (h1 r hr)
  by_cases hm : m ∈ spans done
  ·have e0 := key.mpr ((hsame m).mpr hm)
   have es : lsStep ls m = ls := by unfold lsStep; rw [e0]; rfl
   rw [es, ih (m :: done) ls hr hd (fun d hdd => by
    rcases List.mem_cons.mp hdd with rfl | hdd
    ·exact (hsame _).mpr hm
    ·exact h2 d hdd)]
   simp only [gr, hm, if_true]; omega
  ·have e0 : lsRed ls m ≠ 0 := fun h => hm ((hsame m).mp (key.mp h))
   have es : lsStep ls m = withL ls (lsRed ls m) := by unfold lsStep; rw [if_pos e0]
   rw [es, ih (m :: done) _ (with_rd hr e0 hz) (with_in hd (by
     have a1 := spans_sub hd hsp
     have a2 : m ∈ spans (m :: done) := spans_row (by simp)
     have a3 := spans_xor a2 a1
     rwa [← Nat.xor_assoc, Nat.xor_self, Nat.zero_xor] at a3)) (fun d hdd => by
     rcases List.mem_cons.mp hdd with rfl | hdd
     ·have a1 := spans_sub (with_old ls (lsRed ls d)) hsp
      have a3 := spans_xor a1 (with_new ls (lsRed ls d))
      rwa [Nat.xor_assoc, Nat.xor_self, Nat.xor_zero] at a3
     ·exact spans_sub (with_old ls _) (h2 d hdd))]
   simp only [gr, hm, if_false, withL, List.length_append, List.length_map, List.length_singleton]; omega
theorem rank_same (ms : List Nat) : (ms.foldl lsStep []).length = (ms.foldl lawStep []).length := by
 rw [law_rank]
 have := ls_gr ms [] [] ⟨(fun l hl => by cases hl), List.Pairwise.nil⟩ (fun r hr => by cases hr) (fun d hd => by cases hd)
 simpa using this
end RK
namespace RK
theorem gr_congr : ∀ (ms : List Nat) {d e : List Nat}, (∀ x, x ∈ spans d ↔ x ∈ spans e) → gr d ms = gr e ms := by
 intro ms
 induction ms with
 | nil => intro d e _; rfl
 | cons m ms ih =>
  intro d e h
  have h2 : ∀ x, x ∈ spans (m :: d) ↔ x ∈ spans (m :: e) := fun x => by
   simp only [spans, List.mem_append, List.mem_map, h]
  simp only [gr, ih h2, h m]
theorem gr_app : ∀ (as bs d : List Nat), gr d (as ++ bs) = gr d as + gr (as.reverse ++ d) bs := by
 intro as
 induction as with
 | nil => intro bs d; simp [gr]
 | cons a as ih =>
  intro bs d
  simp only [List.cons_append, gr, ih, List.reverse_cons, List.append_assoc, List.nil_append]
  omega
theorem spans_mem {rs ss : List Nat} (h : ∀ r ∈ rs, r ∈ ss) {x : Nat} (hx : x ∈ spans rs) : x ∈ spans ss := spans_sub (fun r hr => spans_row (h r hr)) hx
noncomputable def rk (ms : List Nat) : Nat := gr [] ms
theorem rk_app (as bs : List Nat) : rk (as ++ bs) = rk as + gr as bs := by
 unfold rk
 rw [gr_app]
 congr 1
 refine gr_congr bs fun x => ⟨fun h => spans_mem (fun r hr => by simpa using hr) h, fun h => spans_mem (fun r hr => by simpa using hr) h⟩
theorem gr_swap (d : List Nat) (a b : Nat) (ms : List Nat) : gr d (a :: b :: ms) = gr d (b :: a :: ms) := by
 have h2 : gr (b :: a :: d) ms = gr (a :: b :: d) ms := gr_congr ms fun x => ⟨fun h => spans_mem (fun r hr => by simp at hr ⊢; rcases hr with h | h | h <;> simp [h]) h, fun h => spans_mem (fun r hr => by simp at hr ⊢; rcases hr with h | h | h <;> simp [h]) h⟩
 have e1 : ∀ p q : Nat, p ∉ spans d → q ∉ spans d → q ∈ spans (p :: d) → p ∈ spans (q :: d) := by
  intro p q hp hq h
  simp only [spans, List.mem_append, List.mem_map] at h ⊢
  rcases h with h | ⟨s, hs, rfl⟩
  ·exact absurd h hq
  ·exact .inr ⟨s, hs, by rw [Nat.xor_assoc, Nat.xor_self, Nat.xor_zero]⟩
 have e2 : ∀ p q : Nat, q ∈ spans d → q ∈ spans (p :: d) := fun p q h => by simp only [spans, List.mem_append]; exact .inl h
 have e3 : ∀ p q : Nat, p ∈ spans d → q ∉ spans d → q ∉ spans (p :: d) := by
  intro p q hp hq h
  simp only [spans, List.mem_append, List.mem_map] at h
  rcases h with h | ⟨s, hs, rfl⟩
  ·exact hq h
  ·exact hq (spans_xor hp hs)
 simp only [gr, h2]
 by_cases ha : a ∈ spans d <;> by_cases hb : b ∈ spans d
 ·simp [ha, hb, e2]
 ·simp [ha, hb, e2, e3 a b ha hb]
 ·simp [ha, hb, e2, e3 b a hb ha]
 ·by_cases h : b ∈ spans (a :: d)
  ·simp [ha, hb, h, e1 a b ha hb h]
  ·have : a ∉ spans (b :: d) := fun h' => h (e1 b a hb ha h')
   simp [ha, hb, h, this]
theorem gr_perm {as bs : List Nat} (p : as.Perm bs) : ∀ d, gr d as = gr d bs := by
 induction p with
 | nil => intro d; rfl
 | cons x _ ih => intro d; simp only [gr, ih]
 | swap x y l => intro d; exact gr_swap d y x l
 | trans _ _ h1 h2 => intro d; rw [h1, h2]
theorem rk_perm {as bs : List Nat} (p : as.Perm bs) : rk as = rk bs := gr_perm p []
end RK
namespace RK
open PySem
theorem or_split : ∀ a b : Nat, (a &&& b) + (a ^^^ b) = a ||| b := by
 intro a
 induction a using Nat.strongRecOn with
 | ind a ih =>
  intro b
  rcases Nat.eq_zero_or_pos a with rfl | h
  ·simp
  ·have h1 := ih (a / 2) (by omega) (b / 2)
   rw [← Nat.and_div_two, ← Nat.xor_div_two, ← Nat.or_div_two] at h1
   have hm : (a &&& b) % 2 + (a ^^^ b) % 2 = (a ||| b) % 2 := by
    rw [Nat.and_mod_two_pow (n := 1) (a := a) (b := b) |> fun h => h, Nat.xor_mod_two_pow (n := 1) (a := a) (b := b), Nat.or_mod_two_pow (n := 1) (a := a) (b := b)]
    rcases Nat.mod_two_eq_zero_or_one a with e | e <;> rcases Nat.mod_two_eq_zero_or_one b with f | f <;> rw [show (2 : Nat) ^ 1 = 2 from rfl, e, f] <;> rfl
   have d1 := Nat.div_add_mod (a &&& b) 2
   have d2 := Nat.div_add_mod (a ^^^ b) 2
   have d3 := Nat.div_add_mod (a ||| b) 2
   omega
theorem band_nat (a b : Nat) : Builtin.bitAnd (a : Int) (b : Int) = ((a &&& b : Nat) : Int) := by
 unfold Builtin.bitAnd
 simp
theorem bor_nat (a b : Nat) : Builtin.bitOr (a : Int) (b : Int) = ((a ||| b : Nat) : Int) := by
 unfold Builtin.bitOr Builtin.bitAnd Builtin.bitNot
 rw [show decide ((0 : Int) ≤ -(a : Int) - 1) = false from decide_eq_false (by omega), show decide ((0 : Int) ≤ -(b : Int) - 1) = false from decide_eq_false (by omega)]
 dsimp only
 rw [show (-(-(a : Int) - 1) - 1).toNat = a by omega, show (-(-(b : Int) - 1) - 1).toNat = b by omega]
 omega
theorem bxor_nat (a b : Nat) : Builtin.bitXor (a : Int) (b : Int) = ((a ^^^ b : Nat) : Int) := by
 have h := or_split a b
 unfold Builtin.bitXor
 rw [bor_nat, band_nat]; omega
theorem pow_nat (b : Nat) : (1 : Int) * 2 ^ b = ((2 ^ b : Nat) : Int) := by rw [Int.one_mul]; simp
theorem lead_in (m b : Nat) : (!(Builtin.bitAnd (m : Int) ((2 ^ b : Nat) : Int) == 0)) = m.testBit b := by
 rw [band_nat]
 have e : (((m &&& 2 ^ b : Nat) : Int) == 0) = decide (m &&& 2 ^ b = 0) := by
  rw [Bool.eq_iff_iff, beq_iff_eq, decide_eq_true_eq]; omega
 rw [e]
 cases hb : m.testBit b
 ·have : m &&& 2 ^ b = 0 := by
   apply Nat.eq_of_testBit_eq
   intro i
   rw [Nat.testBit_and, Nat.testBit_two_pow]
   by_cases h : b = i
   ·subst h; simp [hb]
   ·simp [h]
  simp [this]
 ·have : m &&& 2 ^ b ≠ 0 := fun h => by
   have h2 : (m &&& 2 ^ b).testBit b = true := by rw [Nat.testBit_and, hb, Nat.testBit_two_pow_self]; rfl
   rw [h] at h2; simp at h2
  simp [this]
theorem blen_nat {m : Nat} (h : m ≠ 0) : ((Builtin.Int.intBits (m : Int) : Nat) : Int) - 1 = ((m.log2 : Nat) : Int) := by
 unfold Builtin.Int.intBits
 have : ((m : Int) == 0) = false := by rw [beq_eq_false_iff_ne]; omega
 rw [this]
 simp only [Bool.false_eq_true, if_false, Int.natAbs_natCast]
 omega
theorem log2_lt {m B : Nat} (h : m ≠ 0) (hm : m < 2 ^ B) : m.log2 < B := (Nat.log2_lt h).mpr hm
noncomputable abbrev L3 := Nat × Nat × Nat
noncomputable def lsR3 (ls : List L3) (x : Nat × Nat) : Nat × Nat := ls.foldl (fun p l => if p.1.testBit l.1 = true then (p.1 ^^^ l.2.1, p.2 ^^^ l.2.2) else p) x
noncomputable def pr3 (l : L3) : Nat × Nat := (l.1, l.2.1)
theorem lsR3_fst : ∀ (ls : List L3) (x : Nat × Nat), (lsR3 ls x).1 = lsRed (ls.map pr3) x.1 := by
 intro ls
 induction ls with
 | nil => intro x; rfl
 | cons l ls ih =>
  intro x
  simp only [lsR3, lsRed, List.foldl_cons, List.map_cons, pr3] at ih ⊢
  by_cases h : x.1.testBit l.1 = true
  ·rw [if_pos h, if_pos h]; exact ih _
  ·rw [if_neg h, if_neg h]; exact ih _
noncomputable def chg3 (m q : Nat) (l : L3) : L3 := if l.2.1.testBit m.log2 = true then (l.1, l.2.1 ^^^ m, l.2.2 ^^^ q) else l
noncomputable def with3 (ls : List L3) (m q : Nat) : List L3 := ls.map (chg3 m q) ++ [(m.log2, m, q)]
theorem with3_pr (ls : List L3) (m q : Nat) : (with3 ls m q).map pr3 = withL (ls.map pr3) m := by
 unfold with3 withL
 rw [List.map_append, List.map_map, List.map_map]
 congr 1
 apply List.map_congr_left
 intro l _
 by_cases h : l.2.1.testBit m.log2 = true
 ·simp [Function.comp, chg3, chg, pr3, h]
 ·simp [Function.comp, chg3, chg, pr3, h]
noncomputable def step3 (ls : List L3) (m q : Nat) : List L3 := if (lsR3 ls (m, q)).1 ≠ 0 then with3 ls (lsR3 ls (m, q)).1 (lsR3 ls (m, q)).2 else ls
theorem step3_pr (ls : List L3) (m q : Nat) : (step3 ls m q).map pr3 = lsStep (ls.map pr3) m := by
 unfold step3 lsStep
 rw [lsR3_fst]
 split
 ·rw [with3_pr]
 ·rfl
noncomputable def lines3 : List L3 → Nat → List Nat → List L3
 | ls, _, [] => ls
 | ls, n, m :: ms => lines3 (step3 ls m (2 ^ n)) (n + 1) ms
theorem lines3_pr : ∀ (ms : List Nat) (ls : List L3) (n : Nat), (lines3 ls n ms).map pr3 = ms.foldl lsStep (ls.map pr3) := by
 intro ms
 induction ms with
 | nil => intro ls n; rfl
 | cons m ms ih => intro ls n; simp only [lines3, ih, step3_pr, List.foldl_cons]
theorem lines3_len (ms : List Nat) : (lines3 [] 0 ms).length = rk ms := by
 have h := congrArg List.length (lines3_pr ms [] 0)
 rw [List.length_map, List.map_nil, rank_same, law_rank] at h
 exact h
noncomputable def Bd (B : Nat) (ls : List L3) : Prop := ∀ l ∈ ls, l.2.1 < 2 ^ B
theorem lsR3_bd {B : Nat} : ∀ {ls : List L3}, Bd B ls → ∀ {x : Nat × Nat}, x.1 < 2 ^ B → (lsR3 ls x).1 < 2 ^ B := by
 intro ls
 induction ls with
 | nil => intro _ x h; exact h
 | cons l ls ih =>
  intro hb x h
  simp only [lsR3, List.foldl_cons]
  refine ih (fun k hk => hb k (by simp [hk])) ?_
  split
  ·exact Nat.xor_lt_two_pow h (hb l (by simp))
  ·exact h
theorem with3_bd {B : Nat} {ls : List L3} (h : Bd B ls) {m q : Nat} (hm : m < 2 ^ B) : Bd B (with3 ls m q) := by
 intro l hl
 unfold with3 at hl
 rw [List.mem_append, List.mem_singleton] at hl
 rcases hl with hl | rfl
 ·obtain ⟨k, hk, rfl⟩ := List.mem_map.mp hl
  unfold chg3
  split
  ·exact Nat.xor_lt_two_pow (h k hk) hm
  ·exact h k hk
 ·exact hm
theorem step3_bd {B : Nat} {ls : List L3} (h : Bd B ls) {m q : Nat} (hm : m < 2 ^ B) : Bd B (step3 ls m q) := by
 unfold step3
 split
 ·exact with3_bd h (lsR3_bd h hm)
 ·exact h
theorem step3_len (ls : List L3) (m q : Nat) : (step3 ls m q).length ≤ ls.length + 1 := by
 unfold step3 with3
 split <;> simp
end RK
namespace LW
open PySem TT
noncomputable def bt (m k : Int) : Bool := m / (1 * 2 ^ k.toNat) % 2 == 1
noncomputable def bitsP (m : Int) : List Int := (rng 0 41).filter (bt m)
noncomputable def maskP (v : List Int) : Int := (v.map fun c => (1 : Int) * 2 ^ c.toNat).sum
noncomputable def S2 (p : Nat → Bool) : Nat → Nat
 | 0 => 0
 | n + 1 => S2 p n + (if p n = true then 2 ^ n else 0)
theorem S2_lt (p : Nat → Bool) : ∀ n, S2 p n < 2 ^ n := by
 intro n
 induction n with
 | zero => simp [S2]
 | succ n ih =>
  simp only [S2, Nat.pow_succ]
  split <;> omega
theorem S2_bit (p : Nat → Bool) : ∀ n j, (S2 p n).testBit j = (decide (j < n) && p j) := by
 intro n
 induction n with
 | zero => intro j; simp [S2]
 | succ n ih =>
  intro j
  have hlt := S2_lt p n
  simp only [S2]
  by_cases hp : p n = true
  ·rw [if_pos hp, Nat.add_comm]
   by_cases hj : j = n
   ·subst hj
    rw [Nat.testBit_two_pow_add_eq, ih]
    simp [hp]
   ·by_cases hj2 : j < n
    ·rw [Nat.testBit_two_pow_add_gt hj2, ih]
     simp [hj2, Nat.lt_succ_of_lt hj2]
    ·have hb : 2 ^ n + S2 p n < 2 ^ (n + 1) := by rw [Nat.pow_succ]; omega
     have h2 : 2 ^ n + S2 p n < 2 ^ j := Nat.lt_of_lt_of_le hb (Nat.pow_le_pow_right (by decide) (by omega))
     rw [Nat.testBit_lt_two_pow h2]
     simp [show ¬ j < n + 1 by omega]
  ·rw [if_neg hp, Nat.add_zero, ih]
   by_cases hj : j = n
   ·subst hj; simp [hp]
   ·by_cases hj2 : j < n
    ·simp [hj2, Nat.lt_succ_of_lt hj2]
    ·simp [hj2, show ¬ j < n + 1 by omega]
theorem mask_S2 (q : Int → Bool) : ∀ n : Nat, maskP ((rng 0 n).filter q) = ((S2 (fun k => q (k : Int)) n : Nat) : Int) := by
 intro n
 induction n with
 | zero => rfl
 | succ n ih =>
  have e : rng 0 ((n + 1 : Nat) : Int) = rng 0 n ++ [(n : Int)] := by
   unfold rng
   simp only [Int.sub_zero, Int.toNat_natCast, List.range_succ, List.map_append, List.map_cons, List.map_nil]
   simp
  rw [e, List.filter_append]
  unfold maskP at ih ⊢
  rw [List.map_append, List.sum_append, ih]
  simp only [S2]
  by_cases hq : q (n : Int) = true
  ·simp [hq, List.filter_cons]
  ·simp [hq, List.filter_cons]
theorem bt_nat (x k : Nat) : bt (x : Int) (k : Int) = x.testBit k := by
 unfold bt
 rw [Nat.testBit_eq_decide_div_mod_eq, Int.toNat_natCast, Int.one_mul]
 have e : ((x : Int) / 2 ^ k % 2) = ((x / 2 ^ k % 2 : Nat) : Int) := by simp
 rw [e, Bool.eq_iff_iff, beq_iff_eq, decide_eq_true_eq]
 omega
end LW
namespace DD
open PySem PySem.Spec PyProof.Rows L2
section
variable {X : Cx} {o : Expr} {i : Nat} {js : List DP} {lo hi : Option Expr} {pl ph : Option DP} {p2 pos : Pos}
end
end DD
namespace TT
open PySem L2 DD
section
variable {S : Type} {α β γ δ ρ : Type} {Γ Γ0 Γ1 Γ2 Γ3 Γ4 Γ' Γn Γh : Shp S} {c c' : DE} {E : Ex S ρ}
end
end TT
namespace L2
open PySem PySem.Spec PyProof.Rows
section
variable {X : Cx}
end
end L2
namespace DD
open PySem PySem.Spec PyProof.Rows L2
section
variable {X : Cx}
end
end DD
namespace TT
open PySem L2 DD
end TT
namespace DD
open PySem PySem.Spec PyProof.Rows L2
section
variable {K : PySem.W.Frag} {F : Addr → Prop} {H : Hp} {σD : DSt} {σ : St} {R : Ro}
end
section
variable {X : Cx} {e : Expr} {c : DE} {apos cpos : Pos} {i : Nat} {js : List DP}
end
end DD
namespace DD
open PySem PySem.Spec PyProof.Rows L2
theorem plainC {c : Const} {k p} : PlainIx (.Constant c k p) := by intro _ _; rfl
noncomputable def dRepF (c c' : DE) : DE := fun σ => (c σ).bind fun p => (c' p.2).bind fun q => match p.1, q.1 with
 | .lst true xs, .int n => if -(2 ^ 63) ≤ n ∧ n < 2 ^ 63 ∧ xs.length * n.toNat ≤ sizeLine then some (.lst true (List.replicate n.toNat (D.fzL xs)).flatten, q.2) else none
 | _, _ => none
section
variable {X : Cx} {a b e : Expr} {es : List Expr} {ps : List DP} {c c' : DE} {pos apos cpos : Pos} {i : Nat} {js : List DP} {o : Expr}
noncomputable def dAppL (i : Nat) (js : List DP) (ps : List DP) : DE := fun σ => (dget σ i).bind fun t => (evI js σ).bind fun path => (getP t path).bind fun n => match n with
 | .lst true xs => (evB ps σ).bind fun ds => if allSc ds && decide (ds.length ≤ sizeLine) && decide (xs.length < sizeLine) then some (.non, σ.set i (some (setP t path (.lst true (xs ++ [.lst true ds]))))) else none
 | _ => none
theorem qe_appL (ho : QP X o i js) (he : QBA X es ps) (hbase : autoParam (attributeBase o "append" X.env (eval o X.env) = eval o X.env) Ax4._auto_1) (hfew : autoParam (((backTo cpos (starEach [.List es pos] X.env)).all (fun x => !x.1) && (backToKw cpos (keywordEach [] X.env)).all (fun x => x.1.isSome)
   && decide (([.List es pos] : List Expr).length + ([] : List Keyword).length + (if ([] : List Keyword).isEmpty then 0 else 1) < 30)) = true) Ax4._auto_1) (hline : autoParam ((apos.endLine == cpos.line) = true) Ax4._auto_1)
  (hst : autoParam (starEach [.List es pos] X.env = (false, eval (.List es pos) X.env) :: starEach [] X.env) Ax4._auto_1) : QE X (.Call (.Attribute o "append" apos) [.List es pos] [] cpos) (dAppL i js ps) :=
 PE_imp (pe_bm PySem.F.plainAttrs_list PySem.F.slot_list_append PySem.F.type_list_append mt_append ho (pa_cons (pe_lst he) pa_nil hst) hbase hfew hline hst rfl) fun σ H Q hq0 => by
  obtain ⟨F, R, σD, d, σD', r, ec, k⟩ := hq0
  unfold dAppL at ec
  rcases h1 : dget σD i with _ | t
  ·rw [h1] at ec; cases ec
  ·rw [h1] at ec; simp only [bind_some] at ec
   rcases h2 : evI js σD with _ | path
   ·rw [h2] at ec; cases ec
   ·rw [h2] at ec; simp only [bind_some] at ec
    rcases h3 : getP t path with _ | n
    ·rw [h3] at ec; cases ec
    ·rw [h3] at ec; simp only [bind_some] at ec
     split at ec
     ·rename_i xs
      rcases h4 : evB ps σD with _ | ds
      ·rw [h4] at ec; cases ec
      ·rw [h4] at ec; simp only [bind_some] at ec
       split at ec
       ·rename_i hz
        simp only [Bool.and_eq_true, decide_eq_true_eq] at hz
        cases ec
        obtain ⟨v0, hv0, r0⟩ := r.take (dget_some h1)
        obtain ⟨l0, vs0, lc0, hl0, _⟩ := Rel.listAt (S := []) r0 h3
        refine ⟨F, R, σD, v0, path, .ref l0, r, hv0, h2, lc0, fun F1 H1 g1 => ⟨.inl ⟨rfl, vs0, .inl (.inl (g1.k _ _ hl0))⟩, ?_⟩⟩
        refine ⟨F1, R, σD, ds, r.grow g1, h4, fun F2 H2 us g2 b2 => ?_⟩
        obtain ⟨L, ol⟩ := OwL.ofBor b2
        refine ⟨by rw [ol.length]; exact hz.1.2, fun p hp => ?_⟩
        have g3 := g1.trans g2
        obtain ⟨v1, hv1, r1⟩ := (r.grow g3).take (dget_some h1)
        rw [hv0] at hv1; cases hv1
        have os := (ol.sc hz.1.1).2 F2 H2
        obtain ⟨r2, x2⟩ := (Rel.pushL os r1).layL os.length.symm hp
        have r3 : Rel X.K F2 (upd H2 p (.lst us)) (σD.set i none) σ ((t, v0) :: ([(.lst true ds, .ref p)] ++ R)) := r2.perm (.swap _ _ _)
        obtain ⟨l, vs, lc, hl, hlen, upd'⟩ := r3.listAt h3
        have gk : ∀ a ob, H2 a = some ob → upd H2 p (.lst us) a = some ob := fun a ob e => by
         rw [upd_ne (ne_of_none e hp)]; exact e
        have el : l0 = l := by
         have := ((lc0.grow g3.k).grow gk).uniq lc
         injection this
        subst el
        obtain ⟨r5, x5⟩ := upd' (xs ++ [.lst true ds]) (vs ++ [.ref p]) [] (by rw [List.zip_append hlen]; simp) (by simp [hlen])
        refine ⟨l0, vs, .ref p, rfl, rfl, hl, by omega, ?_⟩
        have r6 := (Rel.put (R := R) r5 hv0)
        rw [List.set_set] at r6
        exact k F2 _ .non (g3.x.trans (x2.trans x5)) (r6.scal rfl)
       ·cases ec
     ·cases ec
end
end DD
namespace TT
open PySem L2 DD
section
variable {S : Type} {α β γ δ ρ : Type} {Γ Γ0 Γ1 Γ2 Γ3 Γ4 Γ' Γn Γh : Shp S} {c c' : DE} {E : Ex S ρ}
theorem je_appL1 (i : Nat) {get : S → β × List (List α)} {put : S → β × List (List α) → S} {ra : Rl β} {r : Rl α} (h0 : Γ[i]? = some (some ⟨get, rT2 ra (rL (rL r))⟩)) (hg : autoParam (∀ s v, get (put s v) = v) Ax7._auto_1) (hf : autoParam (∀ v, Fr (fun s => put s v) (Γ.set i none)) Ax9._auto_1) :
  JE Γ (dAppL i [pC (.int 1)] []) (fun s => if ltC (get s).2.length = true then some ((), put s ((get s).1, (get s).2 ++ [[]])) else none) rN Γ := by
 intro s σ v s' hs e
 dsimp only at e
 split at e
 ·rename_i hl
  have hl := ltC_lt hl
  cases e
  obtain ⟨d, hd, x, y, rfl, hx, ds, rfl, hy⟩ := hs.get h0
  have hG : Γ.set i (some ⟨get, rT2 ra (rL (rL r))⟩) = Γ := by
   obtain ⟨hlt, he⟩ := List.getElem?_eq_some_iff.mp h0
   rw [← he, List.set_getElem_self hlt]
  have hput := hs.put (i := i) (get := get) (put := put) (v := ((get s).1, (get s).2 ++ [[]])) (r := rT2 ra (rL (rL r))) (d := .tup [x, .lst true (ds ++ [.lst true []])]) hg hf ⟨x, _, rfl, hx, _, rfl, hy.append (.cons ⟨_, rfl, .nil⟩ .nil)⟩
  rw [hG] at hput
  refine ⟨.non, _, ?_, rfl, hput⟩
  have b1 : ∀ z : D, atI [x, z] 1 = some z := fun z => rfl
  have j1 : ∀ z : D, ixN [x, z].length 1 = some 1 := fun z => rfl
  have q1 := hy.len
  dsimp only at q1
  simp only [dAppL, hd, bind_some, evI, pC, map_some, getP, b1, evB, setP, j1, List.getElem?_cons_succ, List.getElem?_cons_zero, List.set_cons_succ, List.set_cons_zero]
  rw [if_pos (by simp only [Bool.and_eq_true, decide_eq_true_eq]; exact ⟨⟨rfl, Nat.zero_le _⟩, by omega⟩)]
 ·cases e
end
end TT
namespace TT
open PySem L2 DD
end TT
namespace DD
open PySem PySem.Spec PySem.Calls PyProof.Rows L2 PySem.W PySem.Builtin PySem.Builtin.Str
section
variable {prog : Program} {w : World} {A : Around} {E : Value → Shared → Prop} {s : Shared}
end
section
variable {X : Cx} {pins : List (Addr × Obj)} {σ : St} {H : Hp} {s : Shared} {F : Addr → Prop}
end
end DD
namespace L2
open PySem PySem.Spec PyProof.Rows
section
variable {X : Cx}
end
end L2
namespace DD
open PySem PySem.Spec PyProof.Rows L2
section
variable {X : Cx}
end
end DD
namespace DD
open PySem PySem.Spec PyProof.Rows L2
section
variable {X : Cx} {elt : Expr} {ifs : List Expr} {t : DT} {c : DE} {pos : Pos} {scope : Scope}
end
end DD
namespace TT
open PySem L2 DD
section
variable {S : Type} {α β : Type} {Γ Γ1 Γ2 : Shp S}
end
end TT
namespace L2
open PySem PySem.Spec PyProof.Rows
section
variable {κ : Type} [DecidableEq κ]
end
section
variable {P : Program} {w : World} {H : Hp} {h : Heap} {a : Addr}
end
section
variable {X : Cx} {pins : List (Addr × Obj)} {σ : St} {H : Hp} {s : Shared} {a : Addr} {y v : V} {u r : Value} {o : Option V} {A : Around} {E : Value → Shared → Prop}
end
section
variable {X : Cx} {pins : List (Addr × Obj)} {σ : St} {H : Hp} {s : Shared} {a : Addr} {kvs : List (Key × V)} {k : Key} {u : Value} {A : Around} {E : Value → Shared → Prop}
end
section
variable {X : Cx} {o i e value : Expr} {pos pos' tpos : Pos} {td ty tv : TE}
end
section
variable {X : Cx} {pos : Pos}
end
end L2
namespace L2
open PySem PySem.Spec PySem.Calls PyProof.Rows
section
variable {prog : Program} {w : World} {A : Around} {E : Value → Shared → Prop} {s : Shared}
end
section
variable {prog : Program} {w : World} {A : Around} {R : Result → Shared → Prop} {I d : Addr} {h0 : Heap} {H : Hp} {n : Nat} {P : Nat → Value → Prop} {St : Nat → Heap → Prop} {fp : List Addr}
end
section
variable {X : Cx}
end
end L2
namespace L2
open PySem PySem.Spec PySem.Calls PyProof.Rows
section
variable {prog : Program} {w : World} {A : Around} {E : Value → Shared → Prop} {s : Shared}
end
section
variable {X : Cx}
end
end L2
namespace DD
open PySem PySem.Spec PyProof.Rows L2
section
variable {K : PySem.W.Frag} {F : Addr → Prop} {H : Hp} {R : Ro} {ks : List (List Key)} {xs : List D} {v : V} {o : Bool}
variable {σD : DSt} {σ : St}
end
section
variable {X : Cx}
end
end DD
namespace TT
open PySem L2 DD
noncomputable abbrev K3 := Int × Int × Int
noncomputable def k3 (p : K3) : List Key := [Sum.inl p.1, Sum.inl p.2.1, Sum.inl p.2.2]
section
variable {S : Type} {α β ρ : Type} {Γ Γ1 Γ2 : Shp S} {E : Ex S ρ}
end
end TT
namespace DD
open PySem PySem.Spec PyProof.Rows L2
section
variable {X : Cx} {e st : Expr} {lo hi : Option Expr} {pl ph : Option DP} {p q : DP} {pos p2 : Pos}
end
end DD
namespace TT
open PySem L2 DD
section
variable {S : Type} {α β γ : Type} {Γ : Shp S}
end
end TT
namespace TT
open PySem L2 DD
section
variable {α β γ α' β' γ' : Type}
end
end TT
namespace DD
open PySem PySem.Spec PyProof.Rows L2
section
variable {X : Cx} {a b c : Expr} {p q t : DP} {pos : Pos} {op op' : CmpOp} {g g' : D → D → Option D}
end
end DD
namespace TT
open PySem L2 DD
section
variable {S : Type} {α β γ ρ : Type} {Γ Γb Γh : Shp S} {E : Ex S ρ}
noncomputable def tLoopM (putx : S → α → S) (getx : S → α) (fb : S → Option (TR S ρ)) : List α → S → Option (S × List α)
 | [], s => some (s, [])
 | a :: as, s => (fb (putx s a)).bind fun o => match o with
  | .nx s2 => (tLoopM putx getx fb as s2).map fun r => (r.1, getx s2 :: r.2)
  | _ => none
theorem blM_ok {x : Nat} {getx : S → α} {putx : S → α → S} {r : Rl α} [k : Ns r] {b : DS} {fb : S → Option (TR S ρ)} (hx : x < Γh.length) (hn : Γh.set x none = Γh) (hg : ∀ s v, getx (putx s v) = v) (hf : ∀ v, Fr (fun s => putx s v) (Γh.set x none))
  (hb : JS (Γh.set x (some ⟨getx, r⟩)) b fb Γb E) (lb : Le Γb (Γh.set x (some ⟨getx, r⟩))) :
  ∀ {xs : List α} {ds : List D}, All2 r xs ds → ∀ {s : S} {σ : DSt} {q : S × List α}, Sat Γh s σ → tLoopM putx getx fb xs s = some q → ∃ zs σ', bLoop x b ds σ = some (.nx σ', zs) ∧ All2 r q.2 zs ∧ Sat Γh q.1 σ' := by
 intro xs ds h
 induction h with
 | nil => intro s σ q hs e; cases e; exact ⟨[], σ, rfl, .nil, hs⟩
 | cons h1 h2 ih =>
  intro s σ q hs e
  rename_i a d0 as ds0
  simp only [tLoopM] at e
  obtain ⟨o, e1, e⟩ := bd e
  have k1 := Sat.put (i := x) (get := getx) (put := putx) (r := r) (v := a) (d := d0) hs hg hf h1
  obtain ⟨o', b1, r1⟩ := hb _ _ o k1 e1
  cases o with
  | nx s2 =>
   cases o' with
   | nx σ2 =>
    obtain ⟨q', e2, e3⟩ := mp e
    subst e3
    have r2 := lb.sat r1
    obtain ⟨d, hd, rd⟩ := r2.get (i := x) (l := Sl.mk getx r) (by rw [List.getElem?_set_self hx])
    have hsc := k.s _ _ rd
    have q0 := Sat.setn (i := x) (o := none) r2
    rw [List.set_set, hn] at q0
    obtain ⟨zs, σ', c1, c2, c3⟩ := ih q0 e2
    exact ⟨d :: zs, σ', by simp only [bLoop, b1, bind_some, give, hd, hsc, c1, map_some], .cons rd c2, c3⟩
   | _ => exact r1.elim
  | _ => cases e
theorem js_forM (i x : Nat) {get : S → List α} {put : S → List α → S} {getx : S → α} {putx : S → α → S} {r : Rl α} [k : Ns r] {b : DS} {fb : S → Option (TR S ρ)} (hi : Γ[i]? = some (some ⟨get, rL r⟩)) (hb : JS ((Γ.set i none).set x (some ⟨getx, r⟩)) b fb Γb E)
  (lb : autoParam (Le Γb ((Γ.set i none).set x (some ⟨getx, r⟩))) Ax10._auto_1)
  (hx : autoParam (x < Γ.length) Ax1._auto_1) (hn : autoParam ((Γ.set i none).set x none = Γ.set i none) Ax4._auto_1) (hg : autoParam (∀ s v, get (put s v) = v) Ax7._auto_1) (hf : autoParam (∀ v, Fr (fun s => put s v) (Γ.set i none)) Ax9._auto_1)
  (hgx : autoParam (∀ s v, getx (putx s v) = v) Ax7._auto_1) (hfx : autoParam (∀ v, Fr (fun s => putx s v) ((Γ.set i none).set x none)) Ax9._auto_1) :
  JS Γ (sForB i x b) (fun s => (tLoopM putx getx fb (get s) s).map fun q => .nx (put q.1 q.2)) Γ E := by
 intro s σ v hs e
 obtain ⟨q, e1, e2⟩ := mp e
 subst e2
 obtain ⟨d, hd, ds, rfl, h2⟩ := hs.get hi
 have h0 : Sat (Γ.set i none) s (σ.set i none) := hs.setn
 obtain ⟨zs, σ', c1, c2, c3⟩ := blM_ok (by simpa using hx) hn hgx hfx hb lb h2 h0 e1
 have hG : Γ.set i (some ⟨get, rL r⟩) = Γ := by
  obtain ⟨hlt, he⟩ := List.getElem?_eq_some_iff.mp hi
  rw [← he, List.set_getElem_self hlt]
 refine ⟨.nx (σ'.set i (some (.lst true zs))), ?_, ?_⟩
 ·simp only [sForB, hd, show x < σ.length by rw [hs.len]; exact hx, if_true, c1, map_some, Out.upd]
 ·have q := Sat.put (i := i) (get := get) (put := put) (r := rL r) (v := q.2) (d := .lst true zs) c3 hg (by rw [List.set_set]; exact hf) ⟨zs, rfl, c2⟩
  rw [List.set_set, hG] at q
  exact q
end
end TT
namespace DD
open PySem PySem.Spec PyProof.Rows L2
section
variable {X : Cx} {e o a b : Expr} {es : List Expr} {p q : DP} {c c' : DE} {pos apos cpos : Pos} {i : Nat} {js : List DP}
end
end DD
namespace TT
open PySem L2 DD
end TT
namespace TT
open PySem L2 DD
section
variable {S α β : Type} {Γ Γ1 : Shp S}
end
end TT
namespace LW
noncomputable def dot (r xs : List Int) : Int := ((r.zip xs).map fun z => z.1 * z.2).sum
theorem dot_nil_r (r : List Int) : dot r [] = 0 := by cases r <;> rfl
theorem dot_cons (a x : Int) (r xs : List Int) : dot (a :: r) (x :: xs) = a * x + dot r xs := by simp [dot]
noncomputable def mv (A : List (List Int)) (xs : List Int) : List Int := A.map fun r => dot r xs
noncomputable def rm (G : Nat) (r : List Int) (B : List (List Int)) : List Int := (List.range G).map fun p => ((r.zip B).map fun z => z.1 * z.2.getD p 0).sum
theorem dot_rng {G : Nat} {xs : List Int} (f : Nat → Int) (h : xs.length = G) : dot ((List.range G).map f) xs = ((List.range G).map fun p => f p * xs.getD p 0).sum := by
 unfold dot
 congr 1
 apply List.ext_getElem
 ·simp [h]
 ·intro i h1 h2
  have h3 : i < G := by simpa using h2
  simp [List.getD, h, h3]
theorem sum_add (f g : Nat → Int) : ∀ l : List Nat, (l.map fun p => f p + g p).sum = (l.map f).sum + (l.map g).sum
 | [] => rfl
 | x :: l => by simp only [List.map_cons, List.sum_cons, sum_add f g l]; omega
theorem sum_mul (c : Int) (f : Nat → Int) : ∀ l : List Nat, (l.map fun p => c * f p).sum = c * (l.map f).sum
 | [] => by simp
 | x :: l => by simp only [List.map_cons, List.sum_cons, sum_mul c f l, Int.mul_add]
theorem dot_rm {G : Nat} {xs : List Int} (hx : xs.length = G) : ∀ (r : List Int) (B : List (List Int)), (∀ b ∈ B, b.length = G) → dot (rm G r B) xs = dot r (mv B xs) := by
 have z : ∀ l : List Nat, (l.map fun _ => (0 : Int)).sum = 0 := by
  intro l; induction l with
  | nil => rfl
  | cons a l ih => rw [List.map_cons, List.sum_cons, ih]; rfl
 intro r
 induction r with
 | nil =>
  intro B _
  unfold rm
  rw [dot_rng _ hx]
  simp only [List.zip_nil_left, List.map_nil, List.sum_nil, Int.zero_mul]
  rw [z]; rfl
 | cons c r ih =>
  intro B hb
  cases B with
  | nil =>
   unfold rm
   rw [dot_rng _ hx]
   simp only [List.zip_nil_right, List.map_nil, List.sum_nil, Int.zero_mul]
   rw [z]; rfl
  | cons b B =>
   have ih := ih B (fun b' h => hb b' (List.mem_cons_of_mem _ h))
   unfold rm at ih ⊢
   rw [dot_rng _ hx] at ih ⊢
   simp only [List.zip_cons_cons, List.map_cons, List.sum_cons, Int.add_mul, sum_add, ih]
   have hbl := hb b List.mem_cons_self
   have e1 : ((List.range G).map fun p => c * b.getD p 0 * xs.getD p 0).sum = c * dot b xs := by
    have : b = (List.range G).map fun p => b.getD p 0 := by
     apply List.ext_getElem
     ·simp [hbl]
     ·intro i h1 h2; simp [List.getD, h1]
    rw [this, dot_rng _ hx, ← this, ← sum_mul]
    congr 1
    apply List.map_congr_left
    intro p hp
    rw [Int.mul_assoc]
   rw [e1]
   show _ = dot (c :: r) (dot b xs :: mv B xs)
   rw [dot_cons]
noncomputable def un (G i : Nat) : List Int := (List.range G).map fun p => if p = i then 1 else 0
theorem dot_un {G i : Nat} {xs : List Int} (hx : xs.length = G) (hi : i < G) : dot (un G i) xs = xs.getD i 0 := by
 unfold un
 rw [dot_rng _ hx]
 have : ∀ (l : List Nat), l.Nodup → (l.map fun p => (if p = i then (1 : Int) else 0) * xs.getD p 0).sum = if i ∈ l then xs.getD i 0 else 0 := by
  intro l
  induction l with
  | nil => intro _; rfl
  | cons a l ih =>
   intro hn
   rw [List.nodup_cons] at hn
   simp only [List.map_cons, List.sum_cons, ih hn.2]
   by_cases h : a = i
   ·subst h; simp [hn.1]
   ·simp [h, Ne.symm h]
 rw [this _ List.nodup_range]
 simp [hi]
theorem mv_back {G : Nat} {A B : List (List Int)} {xs : List Int} (hx : xs.length = G) (hB : ∀ b ∈ B, b.length = G) (hAB : (A.map fun r => rm G r B) = (List.range G).map fun i => un G i) : mv A (mv B xs) = xs := by
 have h1 : mv A (mv B xs) = (A.map fun r => rm G r B).map fun r => dot r xs := by
  unfold mv
  rw [List.map_map]
  apply List.map_congr_left
  intro r _
  exact (dot_rm hx r B hB).symm
 rw [h1, hAB, List.map_map]
 apply List.ext_getElem
 ·simp [hx]
 ·intro i h2 h3
  have hi : i < G := by omega
  simp only [List.getElem_map, List.getElem_range, Function.comp]
  rw [dot_un hx hi]
  simp [List.getD, h3]
noncomputable def meetB (g o : Nat) : Bool := decide ((g &&& o) ≠ 0)
noncomputable def MT (G : Nat) : List (List Int) := (List.range G).map fun i => (List.range G).map fun j => if meetB (i + 1) (j + 1) = true then 1 else 0
noncomputable def pop4 (x : Nat) : Nat := x % 2 + x / 2 % 2 + x / 4 % 2 + x / 8 % 2
noncomputable def PR (G g : Nat) : List Int := (List.range G).map fun i => if (G ^^^ (i + 1)) &&& (G ^^^ g) = 0 then (if pop4 (g &&& (i + 1)) % 2 = 1 then 1 else -1) else 0
noncomputable def PRs (G : Nat) : List (List Int) := (List.range G).map fun i => PR G (i + 1)
noncomputable def GG (G : Nat) : Prop := G = 1 ∨ G = 3 ∨ G = 7 ∨ G = 15
theorem MT_PR {G : Nat} (h : GG G) : ((MT G).map fun r => rm G r (PRs G)) = (List.range G).map fun i => un G i := by
 rcases h with rfl | rfl | rfl | rfl <;> decide +kernel
theorem PR_MT {G : Nat} (h : GG G) : ((PRs G).map fun r => rm G r (MT G)) = (List.range G).map fun i => un G i := by
 rcases h with rfl | rfl | rfl | rfl <;> decide +kernel
theorem MT_len {G : Nat} : ∀ b ∈ MT G, b.length = G := by intro b hb; simp only [MT, List.mem_map] at hb; obtain ⟨i, _, rfl⟩ := hb; simp
theorem PRs_len {G : Nat} : ∀ b ∈ PRs G, b.length = G := by intro b hb; simp only [PRs, List.mem_map] at hb; obtain ⟨i, _, rfl⟩ := hb; simp [PR]
theorem PRs_small {G : Nat} : ∀ b ∈ PRs G, ∀ x ∈ b, -1 ≤ x ∧ x ≤ 1 := by
 intro b hb x hx
 simp only [PRs, List.mem_map] at hb
 obtain ⟨i, _, rfl⟩ := hb
 simp only [PR, List.mem_map] at hx
 obtain ⟨j, _, rfl⟩ := hx
 split
 ·split <;> decide
 ·decide
theorem tab_parts {G : Nat} (h : GG G) {xs : List Int} (hx : xs.length = G) : mv (MT G) (mv (PRs G) xs) = xs := mv_back hx PRs_len (MT_PR h)
theorem parts_tab {G : Nat} (h : GG G) {xs : List Int} (hx : xs.length = G) : mv (PRs G) (mv (MT G) xs) = xs := mv_back hx MT_len (PR_MT h)
theorem mv_len {A : List (List Int)} {xs : List Int} : (mv A xs).length = A.length := by simp [mv]
theorem fold_dot {G : Nat} {xs : List Int} (hx : xs.length = G) (f : Nat → Bool) : (List.range G).foldl (fun t j => if f j = true then t + xs.getD j 0 else t) 0 = dot ((List.range G).map fun j => if f j = true then 1 else 0) xs := by
 rw [dot_rng _ hx]
 have : ∀ (l : List Nat) (a : Int), l.foldl (fun t j => if f j = true then t + xs.getD j 0 else t) a = a + (l.map fun p => (if f p = true then (1 : Int) else 0) * xs.getD p 0).sum := by
  intro l
  induction l with
  | nil => intro a; simp
  | cons x l ih =>
   intro a
   rw [List.foldl_cons, ih]
   simp only [List.map_cons, List.sum_cons]
   by_cases h : f x = true
   ·simp only [h, if_true]; omega
   ·simp only [h]; simp
 rw [this]; simp
end LW
namespace PySem.W
open PySem PySem.Calls PyProof.Rows
noncomputable def Kp (h h' : Heap) : Prop := ∀ b o, h.get? b = some o → h'.get? b = some o
section
variable {prog : Program} {w : World} {A : Around} {E : Value → Shared → Prop} {s : Shared} {h₀ : Heap} {a : Addr} {vs : List Value} {κ : SortKind} {lt : Nat → Nat → Option Bool} {p : Array Nat}
end
end PySem.W
namespace PySem.W
open PySem PySem.Calls PyProof.Rows
section
variable {prog : Program} {w : World} {A : Around} {E : Value → Shared → Prop} {s : Shared} {fin : Bool} {Q : Bool → Shared → Prop}
end
end PySem.W
namespace L2
open PySem PySem.Spec PyProof.Rows PySem.W
section
variable {X : Cx} {pins : List (Addr × Obj)} {σ : St} {H : Hp} {s : Shared} {h' : Heap}
end
end L2
namespace DD
open PySem PySem.Spec PyProof.Rows L2 PySem.W
section
variable {X : Cx} {e : Expr} {c : DE}
end
end DD
namespace DD
open PySem PySem.Spec PyProof.Rows L2
section
variable {X : Cx} {e : Expr} {lo hi : Option Expr} {pl ph : Option DP} {c : DE} {pos p2 : Pos}
end
end DD
namespace TT
open PySem L2 DD PySem.W
section
variable {S : Type} {α β γ : Type} {Γ Γ1 : Shp S}
end
end TT
namespace DD
open PySem PySem.Spec PyProof.Rows L2
section
variable {X : Cx} {e f : Expr} {c c' : DE} {pos p2 : Pos}
end
end DD
namespace TT
open PySem L2 DD
section
variable {S : Type} {α β γ : Type} {Γ Γ1 Γ2 : Shp S}
end
end TT
namespace PySem.W
open PySem PySem.Calls PyProof.Rows PyProof.V PySem.Spec
section
variable {prog : Program} {w : World} {A : Around} {E : Value → Shared → Prop} {s : Shared} {it d v : Addr} {i ep : Nat} {es : Array DictEntry}
end
end PySem.W
namespace PySem.W
open PySem PySem.Calls PyProof.Rows
section
variable {prog : Program} {w : World} {A : Around} {E : Value → Shared → Prop} {s : Shared} {vs : List Value} {κ : SortKind} {lt : Nat → Nat → Option Bool}
end
end PySem.W
namespace L2
open PySem PySem.Spec PySem.Calls PyProof.Rows PySem.W
section
variable {X : Cx}
end
end L2
namespace DD
open PySem PySem.Spec PyProof.Rows L2 PySem.W
section
variable {K : PySem.W.Frag} {F : Addr → Prop} {H : Hp}
mutual
theorem Ow.nt : ∀ {d : D} {v : V} {L : List Addr}, Ow K F H d v L → ∀ a ∈ L, ∀ vs, H a ≠ some (.tup vs)
 | .hole, _, _, h, a, ha => by simp only [Ow] at h; subst h; cases ha
 | .cell, _, _, h, a, ha => by
  simp only [Ow] at h
  obtain ⟨b, o, rfl, e, rfl⟩ := h
  rw [List.mem_singleton.mp ha]
  intro vs q
  rw [e] at q
  obtain ⟨o, n⟩ := o
  cases q
  exact n
 | .node _ _, _, _, h, a, ha => by simp only [Ow] at h; obtain ⟨rfl, e, rfl⟩ := h; rw [List.mem_singleton.mp ha, e]; intro vs q; cases q
 | .pin _ ⟨o, n⟩, _, _, h, a, ha => by
  simp only [Ow] at h
  obtain ⟨rfl, e, rfl⟩ := h
  rw [List.mem_singleton.mp ha, e]
  intro vs q
  cases q
  exact n
 | .non, _, _, h, a, ha => by simp only [Ow] at h; rw [h.2] at ha; cases ha
 | .bl _, _, _, h, a, ha => by simp only [Ow] at h; rw [h.2] at ha; cases ha
 | .int _, _, _, h, a, ha => by simp only [Ow] at h; rw [h.2] at ha; cases ha
 | .str _, _, _, h, a, ha => by simp only [Ow] at h; rw [h.2] at ha; cases ha
 | .ty _, _, _, h, a, ha => by simp only [Ow] at h; rw [h.2] at ha; cases ha
 | .cls _, _, _, h, a, ha => by simp only [Ow] at h; rw [h.2] at ha; cases ha
 | .lst true xs, _, _, h, a, ha => by
  simp only [Ow] at h
  obtain ⟨b, vs, L', rfl, e, r, rfl⟩ := h
  rcases List.mem_cons.mp ha with rfl | ha
  ·rw [e]; intro vs q; cases q
  ·exact OwL.nt r a ha
 | .lst false xs, _, _, h, a, ha => by simp only [Ow] at h; obtain ⟨_, _, _, _, _, rfl⟩ := h; cases ha
 | .tup xs, _, _, h, a, ha => by simp only [Ow] at h; obtain ⟨_, _, _, _, r⟩ := h; exact OwL.nt r a ha
 | .obj true C ks xs, _, _, h, a, ha => by
  simp only [Ow] at h
  obtain ⟨b, dx, vs, L', rfl, e, _, r, rfl⟩ := h
  rcases List.mem_cons.mp ha with rfl | ha
  ·rw [e]; intro vs q; cases q
  ·exact OwL.nt r a ha
 | .obj false C ks xs, _, _, h, a, ha => by simp only [Ow] at h; obtain ⟨_, _, _, _, _, _, _, _, rfl⟩ := h; cases ha
 | .dct true ks xs, _, _, h, a, ha => by
  simp only [Ow] at h
  obtain ⟨b, vs, L', rfl, e, _, r, rfl⟩ := h
  rcases List.mem_cons.mp ha with rfl | ha
  ·rw [e]; intro vs q; cases q
  ·exact OwL.nt r a ha
 | .dct false ks xs, _, _, h, a, ha => by simp only [Ow] at h; obtain ⟨_, _, _, _, _, _, _, rfl⟩ := h; cases ha
theorem OwL.nt : ∀ {xs : List D} {vs : List V} {L : List Addr}, OwL K F H xs vs L → ∀ a ∈ L, ∀ vs, H a ≠ some (.tup vs)
 | [], _, _, h, a, ha => by simp only [OwL] at h; rw [h.2] at ha; cases ha
 | x :: xs, _, _, h, a, ha => by
  simp only [OwL] at h
  obtain ⟨v, ws, L1, L2, rfl, h1, h2, rfl⟩ := h
  rcases List.mem_append.mp ha with ha | ha
  ·exact Ow.nt h1 a ha
  ·exact OwL.nt h2 a ha
end
theorem OwP.nt : ∀ {R : Ro} {L : List Addr}, OwP K F H R L → ∀ a ∈ L, ∀ vs, H a ≠ some (.tup vs)
 | [], _, h, a, ha => by cases h; cases ha
 | (d, v) :: R, _, h, a, ha => by
  obtain ⟨L1, L2, h1, h2, rfl⟩ := h
  rcases List.mem_append.mp ha with ha | ha
  ·exact h1.nt a ha
  ·exact OwP.nt h2 a ha
variable {σD : DSt} {σ : St} {R : Ro} {as : List Addr}
end
section
variable {X : Cx} {e : Expr} {q : DP}
end
end DD
namespace TT
open PySem L2 DD PySem.W
section
variable {S : Type} {Γ : Shp S}
end
end TT
namespace DD
open PySem PySem.Spec PyProof.Rows L2
section
variable {X : Cx}
end
end DD
namespace TT
open PySem L2 DD
end TT
namespace DD
open PySem PySem.Spec PyProof.Rows L2
mutual
noncomputable def ffD : D → Bool
 | .lst true xs => ffL xs
 | .lst false _ => false
 | .tup xs => ffL xs
 | .obj true _ _ xs => ffL xs
 | .obj false _ _ _ => false
 | .dct true _ xs => ffL xs
 | .dct false _ _ => false
 | _ => true
noncomputable def ffL : List D → Bool
 | [] => true
 | x :: xs => ffD x && ffL xs
end
section
variable {K : PySem.W.Frag} {F F' : Addr → Prop} {H H' : Hp} {A : List Addr}
mutual
theorem Ow.thaw (hA : ∀ a ∈ A, ∀ vs, H a ≠ some (.tup vs)) : ∀ {d : D} {v : V} {L : List Addr}, Ow K F H d v L → ffD d = true → Ow K (fun a => F a ∧ a ∉ A) H d v L
 | .hole, _, _, h, _ => by simp only [Ow] at h ⊢; exact h
 | .cell, _, _, h, _ => by simp only [Ow] at h ⊢; exact h
 | .node _ _, _, _, h, _ => by simp only [Ow] at h ⊢; exact h
 | .pin _ _, _, _, h, _ => by simp only [Ow] at h ⊢; exact h
 | .non, _, _, h, _ => by simp only [Ow] at h ⊢; exact h
 | .bl _, _, _, h, _ => by simp only [Ow] at h ⊢; exact h
 | .int _, _, _, h, _ => by simp only [Ow] at h ⊢; exact h
 | .str _, _, _, h, _ => by simp only [Ow] at h ⊢; exact h
 | .ty _, _, _, h, _ => by simp only [Ow] at h ⊢; exact h
 | .cls _, _, _, h, _ => by simp only [Ow] at h ⊢; exact h
 | .lst true xs, _, _, h, f => by
  simp only [Ow] at h ⊢
  simp only [ffD] at f
  obtain ⟨b, vs, L', rfl, e, r, rfl⟩ := h
  exact ⟨b, vs, L', rfl, e, OwL.thaw hA r f, rfl⟩
 | .lst false xs, _, _, h, f => by simp only [ffD] at f; cases f
 | .tup xs, _, _, h, f => by
  simp only [Ow] at h ⊢
  simp only [ffD] at f
  obtain ⟨a, vs, rfl, t, r⟩ := h
  refine ⟨a, vs, rfl, ?_, OwL.thaw hA r f⟩
  rcases t with ⟨t1, t2⟩ | t
  ·exact .inl ⟨⟨t1, fun z => hA a z vs t2⟩, t2⟩
  ·exact .inr t
 | .obj true C ks xs, _, _, h, f => by
  simp only [Ow] at h ⊢
  simp only [ffD] at f
  obtain ⟨b, dx, vs, L', rfl, e, el, r, rfl⟩ := h
  exact ⟨b, dx, vs, L', rfl, e, el, OwL.thaw hA r f, rfl⟩
 | .obj false C ks xs, _, _, h, f => by simp only [ffD] at f; cases f
 | .dct true ks xs, _, _, h, f => by
  simp only [Ow] at h ⊢
  simp only [ffD] at f
  obtain ⟨b, vs, L', rfl, e, el, r, rfl⟩ := h
  exact ⟨b, vs, L', rfl, e, el, OwL.thaw hA r f, rfl⟩
 | .dct false ks xs, _, _, h, f => by simp only [ffD] at f; cases f
theorem OwL.thaw (hA : ∀ a ∈ A, ∀ vs, H a ≠ some (.tup vs)) : ∀ {xs : List D} {vs : List V} {L : List Addr}, OwL K F H xs vs L → ffL xs = true → OwL K (fun a => F a ∧ a ∉ A) H xs vs L
 | [], _, _, h, _ => by simp only [OwL] at h ⊢; exact h
 | x :: xs, _, _, h, f => by
  simp only [OwL] at h ⊢
  simp only [ffL, Bool.and_eq_true] at f
  obtain ⟨v, ws, L1, L2, rfl, h1, h2, rfl⟩ := h
  exact ⟨v, ws, L1, L2, rfl, Ow.thaw hA h1 f.1, OwL.thaw hA h2 f.2, rfl⟩
end
noncomputable def ffO (o : Option D) : Option D := o.bind fun d => if ffD d = true then some d else none
noncomputable def ffSt (σ : DSt) : DSt := σ.map ffO
theorem sl_thaw (hA : ∀ a ∈ A, ∀ vs, H a ≠ some (.tup vs)) : ∀ {σD : DSt} {σ : L2.St} {L : List Addr}, OwP K F H (sl σD σ) L → ∃ L', OwP K (fun a => F a ∧ a ∉ A) H (sl (ffSt σD) σ) L' ∧ L'.Sublist L
 | [], _, L, h => ⟨[], by unfold ffSt; simp only [List.map_nil, sl]; rfl, List.nil_sublist _⟩
 | none :: σD, [], L, h => ⟨[], by unfold ffSt; simp only [List.map_cons, sl]; rfl, List.nil_sublist _⟩
 | some _ :: σD, [], L, h => by
  refine ⟨[], ?_, List.nil_sublist _⟩
  unfold ffSt
  simp only [List.map_cons, ffO, bind_some]
  split <;> (simp only [sl]; rfl)
 | none :: σD, o :: σ, L, h => by
  have h' : OwP K F H (sl σD σ) L := by simpa only [sl] using h
  obtain ⟨L', e, s⟩ := sl_thaw hA h'
  exact ⟨L', by simpa only [ffSt, List.map_cons, ffO, Option.bind_none, sl] using e, s⟩
 | some d :: σD, none :: σ, L, h => by
  have h' : OwP K F H (sl σD σ) L := by simpa only [sl] using h
  obtain ⟨L', e, s⟩ := sl_thaw hA h'
  refine ⟨L', ?_, s⟩
  unfold ffSt
  simp only [List.map_cons, ffO, bind_some]
  split <;> (simp only [sl]; exact e)
 | some d :: σD, some v :: σ, L, h => by
  have h' : OwP K F H ((d, v) :: sl σD σ) L := by simpa only [sl] using h
  obtain ⟨L1, L2, h1, h2, rfl⟩ := h'
  obtain ⟨L', e, s⟩ := sl_thaw hA h2
  unfold ffSt
  simp only [List.map_cons, ffO, bind_some]
  split
  ·rename_i hf
   exact ⟨L1 ++ L', by simp only [sl]; exact ⟨L1, L', h1.thaw hA hf, e, rfl⟩, s.append_left _⟩
  ·exact ⟨L', by simp only [sl]; exact e, s.trans (List.sublist_append_right _ _)⟩
theorem Mt.thaw : ∀ {σD : DSt} {σ : L2.St}, Mt σD σ → Mt (ffSt σD) σ
 | [], [], h => h
 | none :: σD, _ :: σ, h => Mt.thaw (σD := σD) (σ := σ) h
 | some d :: σD, some _ :: σ, h => by
  have := Mt.thaw (σD := σD) (σ := σ) h
  unfold ffSt
  simp only [List.map_cons, ffO, bind_some]
  split <;> exact this
open Classical in
noncomputable def pinOf (H : Hp) (a : Addr) : D := match H a with
 | some o => if h : NT o then .pin a ⟨o, h⟩ else .hole
 | none => .hole
noncomputable def pins (H : Hp) (M : List Addr) : Ro := M.map fun a => (pinOf H a, V.ref a)
theorem pinOf_eq {a : Addr} {o : HO} (e : H a = some o) (n : NT o) : pinOf H a = .pin a ⟨o, n⟩ := by
 unfold pinOf
 rw [e]
 simp only [n, dif_pos]
theorem nt_of {o : HO} (h : ∀ vs, o ≠ .tup vs) : NT o := by
 cases o <;> first | exact trivial | exact absurd rfl (h _)
theorem pins_ok : ∀ {M : List Addr}, (∀ a ∈ M, ∃ o, H a = some o ∧ NT o) → OwP K F H (pins H M) M
 | [], _ => rfl
 | a :: M, h => by
  obtain ⟨o, e, n⟩ := h a (by simp)
  refine ⟨[a], M, ?_, pins_ok fun b hb => h b (by simp [hb]), rfl⟩
  rw [pinOf_eq e n]
  simp only [Ow]
  exact ⟨trivial, e, trivial⟩
theorem pins_back : ∀ {M M' : List Addr}, (∀ a ∈ M, ∃ o, H a = some o ∧ NT o) → OwP K F' H' (pins H M) M' → M' = M ∧ ∀ a ∈ M, H' a = H a
 | [], M', _, h => ⟨h, fun a ha => by cases ha⟩
 | a :: M, M', hs, h => by
  obtain ⟨o, e, n⟩ := hs a (by simp)
  obtain ⟨L1, L2, h1, h2, rfl⟩ := h
  rw [pinOf_eq e n] at h1
  simp only [Ow] at h1
  obtain ⟨_, e', rfl⟩ := h1
  obtain ⟨rfl, k⟩ := pins_back (fun b hb => hs b (by simp [hb])) h2
  refine ⟨rfl, fun b hb => ?_⟩
  rcases List.mem_cons.mp hb with rfl | hb
  ·rw [e', e]
  ·exact k b hb
variable {σD : DSt} {σ : L2.St} {R : Ro} {d : D} {v : V}
theorem OwP.thaw (hA : ∀ a ∈ A, ∀ vs, H a ≠ some (.tup vs)) : ∀ {S : Ro} {L : List Addr}, OwP K F H S L → (∀ z ∈ S, ffD z.1 = true) → OwP K (fun a => F a ∧ a ∉ A) H S L
 | [], _, h, _ => h
 | (d, v) :: S, _, h, f => by
  obtain ⟨L1, L2, h1, h2, rfl⟩ := h
  exact ⟨L1, L2, h1.thaw hA (f (d, v) (by simp)), OwP.thaw hA h2 fun z hz => f z (by simp [hz]), rfl⟩
theorem Rel.thaw (r : Rel K F H σD σ ((d, v) :: R)) : ∃ (F' : Addr → Prop) (P : Ro), Ext F H F' H ∧ Rel K F' H σD σ ((d.fz, v) :: P) ∧
  ∀ F2 H2 σD2 σ2 S, Ext F' H F2 H2 → Rel K F2 H2 σD2 σ2 (S ++ P) → (∀ z ∈ S, ffD z.1 = true) → ∃ F3, Ext F H F3 H2 ∧ Rel K F3 H2 (ffSt σD2) σ2 (S ++ ((d, v) :: R)) := by
 obtain ⟨L, ⟨L1, L2, h1, h2, rfl⟩, n, f⟩ := r.front.own
 obtain ⟨M, N, rfl, hm, hn⟩ := OwP.split (R := R) h2
 have hMd : ∀ a ∈ M, ∃ o, H a = some o ∧ NT o := fun a ha => by
  obtain ⟨o, e⟩ := hm.dom a ha
  exact ⟨o, e, nt_of fun vs z => hm.nt a ha vs (by rw [e, z])⟩
 obtain ⟨n1, n2, n3⟩ := List.nodup_append.mp n
 have x : Ext F H (fun a => F a ∨ a ∈ L1) H := fun a h => ⟨.inl h, rfl⟩
 refine ⟨fun a => F a ∨ a ∈ L1, pins H M, x, Rel.of r.mt ⟨⟨M ++ N, ⟨[], M ++ N, h1.fz (fun a h => .inl h) fun a h => .inr h, ?_, rfl⟩, n2, fun a ha fa => ?_⟩, fun a fa => ?_⟩, fun F2 H2 σD2 σ2 S x2 r2 hS => ?_⟩
 ·exact (pins_ok hMd).append (hn.mono x fun _ _ => rfl)
 ·rcases fa with fa | fa
  ·exact f a (List.mem_append_right _ ha) fa
  ·exact n3 a fa a ha rfl
 ·rcases fa with fa | fa
  ·exact r.front.dom a fa
  ·exact h1.dom a fa
 ·obtain ⟨L', ho, nd, ff⟩ := r2.front.own
  obtain ⟨Z, N', rfl, hz, hn'⟩ := OwP.split (R := S ++ pins H M) ho
  obtain ⟨Y, M', rfl, hy, hm'⟩ := OwP.split (R := S) hz
  obtain ⟨rfl, hk⟩ := pins_back hMd hm'
  have hA2 : ∀ a ∈ L1, F2 a ∧ H2 a = H a := fun a ha => x2 a (.inr ha)
  have hA : ∀ a ∈ L1, ∀ vs, H2 a ≠ some (.tup vs) := fun a ha vs => by rw [(hA2 a ha).2]; exact h1.nt a ha vs
  obtain ⟨N2, hn2, sub⟩ := sl_thaw hA hn'
  have x3 : Ext F H (fun a => F2 a ∧ a ∉ L1) H2 := fun a fa => ⟨⟨(x2 a (.inl fa)).1, fun z => f a (List.mem_append_left _ z) fa⟩, (x2 a (.inl fa)).2⟩
  have subs : ((Y ++ M') ++ N2).Sublist ((Y ++ M') ++ N') := sub.append_left _
  have pm : (Y ++ (L1 ++ M') ++ N2).Perm (L1 ++ ((Y ++ M') ++ N2)) := by
   have h := List.perm_append_comm (l₁ := Y) (l₂ := L1)
   have h2 := (h.append_right M').append_right N2
   simpa using h2
  have nd2 : (L1 ++ ((Y ++ M') ++ N2)).Nodup := by
   rw [List.nodup_append]
   refine ⟨n1, nd.sublist subs, fun a ha b hb e => ?_⟩
   subst e
   exact ff a (subs.subset hb) (hA2 a ha).1
  have hdr : OwP K (fun a => F2 a ∧ a ∉ L1) H2 ((d, v) :: R) (L1 ++ M') := ⟨L1, M', h1.mono x3 fun a ha => (hA2 a ha).2, hm.mono x3 hk, rfl⟩
  refine ⟨fun a => F2 a ∧ a ∉ L1, x3, Rel.of r2.mt.thaw ⟨⟨Y ++ (L1 ++ M') ++ N2, ((hy.thaw hA hS).append hdr).append hn2, pm.nodup_iff.mpr nd2, fun a ha fa => ?_⟩, fun a fa => r2.front.dom a fa.1⟩⟩
  rcases List.mem_append.mp (pm.mem_iff.mp ha) with ha | ha
  ·exact fa.2 ha
  ·exact ff a (subs.subset ha) fa.1
end
noncomputable def dThaw (i : Nat) (c : DE) : DE := fun σ => (dget σ i).bind fun d => (c (σ.set i (some d.fz))).bind fun p => if ffD p.1 = true then some (p.1, (ffSt p.2).set i (some d)) else none
noncomputable def dHide (j : Nat) (c : DE) : DE := fun σ => (dget σ j).bind fun d => (c (σ.set j none)).map fun p => (p.1, p.2.set j (some d))
section
variable {X : Cx} {e : Expr} {c : DE}
theorem qe_thaw (i : Nat) (h : QE X e c) : QE X e (dThaw i c) := PE_imp h fun σ H Q hq0 => by
 obtain ⟨F, R, σD, d, σD', r, ec, k⟩ := hq0
 unfold dThaw at ec
 obtain ⟨d0, h0, ec⟩ := Option.bind_eq_some_iff.mp ec
 obtain ⟨⟨d1, σ1⟩, h1, ec⟩ := Option.bind_eq_some_iff.mp ec
 dsimp only at ec
 split at ec
 ·rename_i hf
  cases ec
  obtain ⟨v, hv, r1⟩ := r.take (dget_some h0)
  obtain ⟨F', P, x1, r2, back⟩ := r1.thaw
  have r3 := r2.put hv
  rw [List.set_set] at r3
  refine ⟨F', P, _, d, σ1, r3, h1, fun F2 H2 w x2 r4 => ?_⟩
  obtain ⟨F3, x3, r5⟩ := back F2 H2 σ1 σ [(d, w)] x2 r4 (fun z hz => by rw [List.mem_singleton.mp hz]; exact hf)
  exact k F3 H2 w x3 ((r5.perm (.swap _ _ _)).put hv)
 ·cases ec
theorem qe_hide (j : Nat) (h : QE X e c) : QE X e (dHide j c) := PE_imp h fun σ H Q hq0 => by
 obtain ⟨F, R, σD, d, σD', r, ec, k⟩ := hq0
 unfold dHide at ec
 obtain ⟨d0, h0, ec⟩ := Option.bind_eq_some_iff.mp ec
 obtain ⟨⟨d1, σ1⟩, h1, ec⟩ := map_some_pair ec
 cases ec
 obtain ⟨v, hv, r1⟩ := r.take (dget_some h0)
 exact ⟨F, _, _, d1, σ1, r1, h1, fun F2 H2 w x2 r4 => k F2 H2 w x2 ((r4.perm (.swap _ _ _)).put hv)⟩
end
end DD
namespace TT
open PySem L2 DD
class Ff {α : Type} (r : Rl α) : Prop where
 f : ∀ a d, r a d → ffD d = true
theorem All2.ff {α : Type} {r : Rl α} (k : ∀ a d, r a d → ffD d = true) : ∀ {as : List α} {ds : List D}, All2 r as ds → ffL ds = true
 | _, _, .nil => rfl
 | _, _, .cons a h => by simp only [ffL, k _ _ a, h.ff k, Bool.and_self]
section
variable {α β γ δ : Type}
instance : Ff rI := ⟨fun _ _ h => by cases h; rfl⟩
instance {r : Rl α} [k : Ff r] : Ff (rL r) := ⟨fun _ _ hq0 => by obtain ⟨ds, e, h⟩ := hq0; rw [e]; simp only [ffD]; exact h.ff k.f⟩
end
section
variable {S : Type} {α β : Type} {Γ Γ1 Γ2 : Shp S}
inductive Tw : Shp S → Shp S → Prop
 | nil : Tw [] []
 | non {a} {Γ Γ'} : Tw Γ Γ' → Tw (a :: Γ) (none :: Γ')
 | som {α : Type} {g : S → α} {r : Rl α} {Γ Γ'} : Ff r → Tw Γ Γ' → Tw (some ⟨g, r⟩ :: Γ) (some ⟨g, r⟩ :: Γ')
theorem Tw.sat {s : S} (w : Tw Γ1 Γ2) : ∀ {σ : DSt}, Sat Γ1 s σ → Sat Γ2 s (ffSt σ) := by
 induction w with
 | nil => intro σ h; cases σ with | nil => exact h | cons _ _ => exact h.elim
 | non _ ih => intro σ h; cases σ with | nil => exact h.elim | cons x σ => exact ⟨trivial, ih h.2⟩
 | som f _ ih =>
  intro σ h
  cases σ with
  | nil => exact h.elim
  | cons x σ =>
   obtain ⟨d, e, hd⟩ := h.1
   refine ⟨⟨d, ?_, hd⟩, ih h.2⟩
   rw [e]
   simp only [ffO, bind_some, f.f _ _ hd, if_true]
theorem je_thaw (i : Nat) {get : S → β} {put : S → β → S} {q q' : Rl β} [z : Fz q q'] {c : DE} {r : Rl α} [k : Ff r] {f : S → Option (α × S)} (h : JE (Γ.set i (some ⟨get, q'⟩)) c f r Γ1) (w : Tw Γ1 Γ2) (hi : Γ[i]? = some (some ⟨get, q⟩)) (hg : autoParam (∀ s v, get (put s v) = v) Ax7._auto_1)
  (hf : autoParam (∀ v, Fr (fun s => put s v) (Γ2.set i none)) Ax9._auto_1) :
  JE Γ (dThaw i c) (fun s => (f s).map fun p => (p.1, put p.2 (get s))) r (Γ2.set i (some ⟨get, q⟩)) := fun s σ v s' hs e => by
 obtain ⟨⟨a, s1⟩, e1, e⟩ := mp e
 cases e
 obtain ⟨d, hd, rd⟩ := hs.get hi
 obtain ⟨x, σ1, hx, rx, h1⟩ := h s (σ.set i (some d.fz)) a s1 (hs.set ⟨_, rfl, z.f _ _ rd⟩) e1
 refine ⟨x, _, by simp only [dThaw, hd, bind_some, hx, k.f _ _ rx, if_true]; rfl, rx, ?_⟩
 exact (w.sat h1).put hg hf rd
theorem je_hide (j : Nat) {get : S → β} {put : S → β → S} {q : Rl β} {c : DE} {r : Rl α} {f : S → Option (α × S)} (h : JE (Γ.set j none) c f r Γ1) (hi : Γ[j]? = some (some ⟨get, q⟩)) (hg : autoParam (∀ s v, get (put s v) = v) Ax7._auto_1)
  (hf : autoParam (∀ v, Fr (fun s => put s v) (Γ1.set j none)) Ax9._auto_1) :
  JE Γ (dHide j c) (fun s => (f s).map fun p => (p.1, put p.2 (get s))) r (Γ1.set j (some ⟨get, q⟩)) := fun s σ v s' hs e => by
 obtain ⟨⟨a, s1⟩, e1, e⟩ := mp e
 cases e
 obtain ⟨d, hd, rd⟩ := hs.get hi
 obtain ⟨x, σ1, hx, rx, h1⟩ := h s (σ.set j none) a s1 hs.setn e1
 exact ⟨x, _, by simp only [dHide, hd, bind_some, hx, map_some], rx, h1.put hg hf rd⟩
end
end TT
namespace DD
open PySem PySem.Spec PyProof.Rows L2
section
variable {X : Cx} {e o : Expr} {es : List Expr} {ps : List DP} {p : DP} {pos apos cpos : Pos} {i : Nat} {js : List DP}
end
end DD
namespace TT
open PySem L2 DD
section
variable {S : Type} {α β γ δ : Type} {Γ : Shp S}
end
end TT
namespace TT
open PySem L2 DD
section
variable {S : Type} {α : Type} {Γ Γ1 : Shp S}
end
end TT
namespace PySem.W
open PySem.Calls PyProof.Rows PySem.Spec PySem.MeetsSeq3
section
end
end PySem.W
namespace L2
open PySem PySem.Spec PySem.Calls PyProof.Rows PySem.W
section
variable {X : Cx} {pins : List (Addr × Obj)} {σ : St} {H : Hp} {s : Shared} {h' : Heap}
end
end L2
namespace DD
open PySem PySem.Spec PyProof.Rows L2 PySem.W
section
variable {X : Cx} {e b : Expr} {c : DE} {sts : List Stmt}
end
end DD
namespace TT
open PySem L2 DD PySem.W
section
variable {S : Type} {α β ρ : Type} {Γ Γ1 Γ2 : Shp S} {E : Ex S ρ}
end
end TT
namespace TT
open PySem L2 DD
section
variable {S : Type} {α β : Type} {Γ Γ1 Γ2 : Shp S}
end
end TT
namespace DD
open PySem PySem.Spec PyProof.Rows L2
noncomputable def sForBP (i x : Nat) (b : DS) : DS := fun σ => match dget σ i with
 | some (.tup [d0, .lst true xs]) => if x < σ.length then (bLoop x b xs (σ.set i none)).map fun r => r.1.upd fun σ2 => σ2.set i (some (.tup [d0, .lst true r.2])) else none
 | _ => none
section
variable {X : Cx} {s : DS} {pos : Pos} {W' : List Nat} {body : List Stmt}
theorem qs_forBP (i x : Nat) {e : Expr} {yn : Str} {tpos : Pos} (ho : QP X e i [pC (.int 1)]) (hnd : X.N.Nodup) (hb : QSs X body s W') (hp : PassesOwn (model X.prog X.w) X.A X.env X.xe) (hc : autoParam (X.calm = true) Ax4._auto_1) (hxi : autoParam (((x :: W').contains i) = false) Ax4._auto_1) (hxw : autoParam ((W'.contains x) = false) Ax4._auto_1)
  (hNx : autoParam (X.N[x]? = some yn) Ax4._auto_1) (hl : autoParam (Loc X.env.scope yn) Ax8._auto_1) (hfn : autoParam (X.fn yn = true ∨ X.env.scope.names.lookup yn = some .local) Ax0._auto_1)
  (hf : autoParam (∀ y, foldedSetIterable e X.env y = pure y) Ax3._auto_1) : QS X (.For (.Name yn tpos) e body [] pos) (sForBP i x s) (x :: W') :=
 PS_imp (ps_for hp hc (pi_list ho) (pg_name hnd hNx hl hfn) hb hf) fun En σ H0 hq0 => by
  obtain ⟨F0, R, σD, o, r, ec, k⟩ := hq0
  have hxi' : i ≠ x := by rintro rfl; simp at hxi
  unfold sForBP at ec
  split at ec
  ·rename_i d0 xs h1
   split at ec
   ·rename_i hxl
    rcases hB : bLoop x s xs (σD.set i none) with _ | ⟨o1, items⟩
    ·rw [hB] at ec; cases ec
    ·rw [hB] at ec
     cases ec
     obtain ⟨v0, hv0, r00⟩ := r.take (dget_some h1)
     obtain ⟨l0, vs0, lc0, hl0, _⟩ := Rel.listAt (S := []) (js := [1]) (xs := xs) r00 rfl
     refine ⟨F0, R, σD, v0, [1], .ref l0, r, hv0, rfl, lc0, fun F H g => ?_⟩
     obtain ⟨v1, hv1, r0⟩ := (r.grow g).take (dget_some h1)
     rw [hv0] at hv1; cases hv1
     obtain ⟨ta, ws, rfl, ft, hlw, rt⟩ := r0.openT
     obtain ⟨w0, w1, rfl⟩ : ∃ w0 w1, ws = [w0, w1] := by
      match ws, hlw with
      | [a, b], _ => exact ⟨a, b, rfl⟩
     have hft : F ta ∧ H ta = some (.tup [w0, w1]) := by
      rcases ft with h | h
      ·exact h
      ·exact (h.1 H).elim
     obtain ⟨a, vs, rfl, ha, hlen, r1'⟩ := (rt.perm (S := (.lst true xs, w1) :: ((d0, w0) :: R)) (.swap _ _ _)).openN
     have r1 : Rel X.K F H (σD.set i none) σ ((.node a vs, .ref a) :: (xs.zip vs ++ ((d0, w0) :: R))) := r1'
     have el : a = l0 := by
      have lc1 : Lc H (.ref ta) [1] (.ref a) := ⟨ta, [w0, .ref a], .ref a, rfl, .inr hft.2, rfl, rfl⟩
      have := lc1.uniq (lc0.grow g.k)
      injection this
     subst el
     have hlσ : x < σ.length := by rw [← r.mt.length]; exact hxl
     -- the list put together again
     have fin : ∀ {F2 H2 σD2 σ2 items2} {S : Ro}, Ext F H F2 H2 → Kp (x :: W') σ σ2 → items2.length = vs.length → Rel X.K F2 H2 σD2 σ2 ((.node a vs, .ref a) :: (items2.zip vs ++ (S ++ ((d0, w0) :: R)))) → Rel X.K F2 H2 (σD2.set i (some (.tup [d0, .lst true items2]))) σ2 (S ++ R) := fun {F2 H2 σD2 σ2 items2 S} xe kp hl2 r2 => by
      have ra := r2.formN hl2
      have rb : Rel X.K F2 H2 σD2 σ2 (([d0, .lst true items2] : List D).zip [w0, .ref a] ++ (S ++ R)) := ra.perm (by
       have p1 : ((D.lst true items2, V.ref a) :: (S ++ ((d0, w0) :: R))).Perm ((D.lst true items2, V.ref a) :: ((d0, w0) :: (S ++ R))) := .cons _ List.perm_middle
       exact p1.trans (.swap _ _ _))
      have rc : Rel X.K F2 H2 σD2 σ2 ((.tup [d0, .lst true items2], .ref ta) :: (S ++ R)) := Rel.of rb.mt (G.formT (by have := rb.front; rw [List.append_assoc] at this; exact this) rfl ⟨(xe ta hft.1).1, (xe ta hft.1).2.trans hft.2⟩)
      exact rc.put (by rw [kp.at hxi]; exact hv0)
     refine ⟨a, rfl, ⟨vs, .inl (.inl ha)⟩, ?_⟩
     refine for_list (K := X.K) (a := a) (xs := vs) (g := gName x) (tb := rS X.K s W') (fun n σ1 H1 => ∃ F2 σD1 dn r', Ext F H F2 H1 ∧ Kp (x :: W') σ σ1 ∧ x < σ1.length ∧
       Rel X.K F2 H1 σD1 σ1 ((.node a vs, .ref a) :: (dn.zip (vs.take n) ++ ((xs.drop n).zip (vs.drop n) ++ ((d0, w0) :: R)))) ∧ dn.length = n ∧ bLoop x s (xs.drop n) σD1 = some r' ∧ r'.1 = o1 ∧ dn ++ r'.2 = items)
      ⟨F, _, [], (o1, items), Ext.refl, Kp.refl, hlσ, by simpa using r1, rfl, by simpa using hB, rfl, rfl⟩ (fun n σ1 H1 _ ⟨F2, σD1, dn, r', _, _, _, r2, _⟩ => .inl (.inl (r2.nodeAt (by simp)))) ?_ ?_
     ·rintro n y σ1 H1 hn ⟨F2, σD1, dn, r', x2, kp1, hl1, r2, hdn, hB2, hr1, hr2⟩
      have hnl : n < vs.length := (List.getElem?_eq_some_iff.mp hn).1
      have hnl' : n < xs.length := by rw [hlen]; exact hnl
      have ey : vs[n] = y := by rw [List.getElem?_eq_getElem hnl] at hn; exact Option.some.inj hn
      rw [List.drop_eq_getElem_cons hnl', List.drop_eq_getElem_cons hnl, ey] at r2
      rw [List.drop_eq_getElem_cons hnl'] at hB2
      have r3 : Rel X.K F2 H1 σD1 σ1 ((xs[n], y) :: ((.node a vs, .ref a) :: (dn.zip (vs.take n) ++ ((xs.drop (n + 1)).zip (vs.drop (n + 1)) ++ ((d0, w0) :: R))))) := r2.perm (by
       have p1 : ((D.node a vs, V.ref a) :: (dn.zip (vs.take n) ++ ((xs[n] :: xs.drop (n + 1)).zip (y :: vs.drop (n + 1)) ++ ((d0, w0) :: R)))).Perm ((D.node a vs, V.ref a) :: ((xs[n], y) :: (dn.zip (vs.take n) ++ ((xs.drop (n + 1)).zip (vs.drop (n + 1)) ++ ((d0, w0) :: R))))) := .cons _ List.perm_middle
       exact p1.trans (.swap _ _ _))
      have r4 := r3.store (i := x) hl1
      simp only [bLoop] at hB2
      rcases h2 : s (σD1.set x (some xs[n])) with _ | o2
      ·rw [h2] at hB2; cases hB2
      ·rw [h2] at hB2; simp only [bind_some] at hB2
       refine ⟨F2, _, _, o2, r4, h2, fun F3 H3 σ3 x3 kp3 => ?_⟩
       have kp4 : Kp (x :: W') σ σ3 := fun kk hk => by
        have hkw : kk ∉ W' := fun z => hk (by simp [z])
        have hkx : x ≠ kk := fun z => hk (by simp [z])
        rw [kp3 kk hkw, List.getElem?_set_ne hkx, kp1 kk hk]
       have hx3 : σ3[x]? = some (some y) := by
        rw [kp3.at hxw]; simp [hl1]
       have l3 : x < σ3.length := (List.getElem?_eq_some_iff.mp hx3).1
       have tk : vs.take (n + 1) = vs.take n ++ [y] := by rw [List.take_succ, hn]; rfl
       -- behind a turn that goes on
       have goon : ∀ {σD3 : DSt}, (bLoop x s (xs.drop (n + 1)) (give x σD3).2).map (fun r => (r.1, (give x σD3).1 :: r.2)) = some r' → Rel X.K F3 H3 σD3 σ3 ((.node a vs, .ref a) :: (dn.zip (vs.take n) ++ ((xs.drop (n + 1)).zip (vs.drop (n + 1)) ++ ((d0, w0) :: R)))) →
         ∃ F2 σD1 dn r', Ext F H F2 H3 ∧ Kp (x :: W') σ σ3 ∧ x < σ3.length ∧ Rel X.K F2 H3 σD1 σ3 ((.node a vs, .ref a) :: (dn.zip (vs.take (n + 1)) ++ ((xs.drop (n + 1)).zip (vs.drop (n + 1)) ++ ((d0, w0) :: R)))) ∧ dn.length = n + 1 ∧ bLoop x s (xs.drop (n + 1)) σD1 = some r' ∧ r'.1 = o1 ∧ dn ++ r'.2 = items := fun {σD3} hm r5 => by
        rcases h3 : bLoop x s (xs.drop (n + 1)) (give x σD3).2 with _ | r6
        ·rw [h3] at hm; cases hm
        ·rw [h3] at hm
         cases hm
         refine ⟨F3, _, dn ++ [(give x σD3).1], r6, x2.trans x3, kp4, l3, ?_, by simp [hdn], h3, hr1, by rw [← hr2]; simp⟩
         have r7 := give_ok r5 hx3
         rw [tk, List.zip_append (by simp [hdn]; omega)]
         refine r7.perm ?_
         have p1 : (((give x σD3).1, y) :: (D.node a vs, V.ref a) :: (dn.zip (vs.take n) ++ ((xs.drop (n + 1)).zip (vs.drop (n + 1)) ++ ((d0, w0) :: R)))).Perm ((D.node a vs, V.ref a) :: ((give x σD3).1, y) :: (dn.zip (vs.take n) ++ ((xs.drop (n + 1)).zip (vs.drop (n + 1)) ++ ((d0, w0) :: R)))) := .swap _ _ _
         refine p1.trans (.cons _ ?_)
         rw [List.append_assoc]
         exact List.perm_middle.symm
       -- a turn that ends the loop
       have stop : ∀ {σD3 : DSt} {S : Ro}, Rel X.K F3 H3 σD3 σ3 (S ++ ((.node a vs, .ref a) :: (dn.zip (vs.take n) ++ ((xs.drop (n + 1)).zip (vs.drop (n + 1)) ++ ((d0, w0) :: R))))) → (dn ++ (give x σD3).1 :: xs.drop (n + 1)) = items → Rel X.K F3 H3 ((give x σD3).2.set i (some (.tup [d0, .lst true items]))) σ3 (S ++ R) := fun {σD3 S} r5 hit => by
        have r7 := give_ok r5 hx3
        refine fin (S := S) (x2.trans x3) kp4 (by rw [← hit]; simp [hdn]; omega) ?_
        rw [← hit]
        have ez : (dn ++ (give x σD3).1 :: xs.drop (n + 1)).zip vs = dn.zip (vs.take n) ++ (((give x σD3).1, y) :: (xs.drop (n + 1)).zip (vs.drop (n + 1))) := by
         have : vs = vs.take n ++ y :: vs.drop (n + 1) := by
          rw [← ey, ← List.drop_eq_getElem_cons hnl, List.take_append_drop]
         conv => lhs; rw [this]
         rw [List.zip_append (by simp [hdn]; omega)]
         rfl
        rw [ez]
        refine r7.perm ?_
        have p1 : (((give x σD3).1, y) :: (S ++ ((D.node a vs, V.ref a) :: (dn.zip (vs.take n) ++ ((xs.drop (n + 1)).zip (vs.drop (n + 1)) ++ ((d0, w0) :: R)))))).Perm (((give x σD3).1, y) :: ((D.node a vs, V.ref a) :: (S ++ (dn.zip (vs.take n) ++ ((xs.drop (n + 1)).zip (vs.drop (n + 1)) ++ ((d0, w0) :: R)))))) := .cons _ List.perm_middle
        refine p1.trans ((List.Perm.swap _ _ _).trans (.cons _ ?_))
        have p2 : (((give x σD3).1, y) :: (S ++ (dn.zip (vs.take n) ++ ((xs.drop (n + 1)).zip (vs.drop (n + 1)) ++ ((d0, w0) :: R))))).Perm (((give x σD3).1, y) :: (dn.zip (vs.take n) ++ ((xs.drop (n + 1)).zip (vs.drop (n + 1)) ++ (S ++ ((d0, w0) :: R))))) := by
         refine .cons _ ((List.perm_append_comm_assoc _ _ _).trans (List.Perm.append_left _ ?_))
         exact List.perm_append_comm_assoc _ _ _
        refine p2.trans ?_
        rw [List.append_assoc, List.cons_append]
        exact List.perm_middle.symm
       cases o2 with
       | nx σ4 => exact fun r5 => goon hB2 r5
       | ct σ4 => exact fun r5 => goon hB2 r5
       | bk σ4 =>
        cases hB2
        subst hr1
        exact fun r5 => k F3 H3 σ3 (g.x.trans (x2.trans x3)) kp4 (stop (S := []) r5 hr2)
       | rt d' σ4 =>
        cases hB2
        subst hr1
        exact fun v r5 => k F3 H3 σ3 (g.x.trans (x2.trans x3)) kp4 v (stop (S := [(d', v)]) r5 hr2)
     ·rintro σ1 H1 ⟨F2, σD1, dn, r', x2, kp1, hl1, r2, hdn, hB2, hr1, hr2⟩
      have e1 : xs.drop vs.length = [] := List.drop_eq_nil_of_le (by rw [hlen]; exact Nat.le_refl _)
      rw [e1] at hB2 r2
      simp only [bLoop] at hB2
      cases hB2
      subst hr1
      rw [List.append_nil] at hr2
      subst hr2
      refine k F2 H1 σ1 (g.x.trans x2) kp1 (fin (S := []) x2 kp1 (by rw [hdn]) ?_)
      have : vs.take vs.length = vs := List.take_length
      rw [this] at r2
      simpa using r2
   ·cases ec
  ·cases ec
end
end DD
namespace TT
open PySem L2 DD
section
variable {S : Type} {α β ρ : Type} {Γ Γb : Shp S} {E : Ex S ρ}
theorem js_forMP (i x : Nat) {get : S → β × List α} {put : S → β × List α → S} {getx : S → α} {putx : S → α → S} {ra : Rl β} {r : Rl α} [k : Ns r] {b : DS} {fb : S → Option (TR S ρ)} (hi : Γ[i]? = some (some ⟨get, rT2 ra (rL r)⟩)) (hb : JS ((Γ.set i none).set x (some ⟨getx, r⟩)) b fb Γb E)
  (lb : autoParam (Le Γb ((Γ.set i none).set x (some ⟨getx, r⟩))) Ax10._auto_1)
  (hx : autoParam (x < Γ.length) Ax1._auto_1) (hn : autoParam ((Γ.set i none).set x none = Γ.set i none) Ax4._auto_1) (hg : autoParam (∀ s v, get (put s v) = v) Ax7._auto_1) (hf : autoParam (∀ v, Fr (fun s => put s v) (Γ.set i none)) Ax9._auto_1)
  (hgx : autoParam (∀ s v, getx (putx s v) = v) Ax7._auto_1) (hfx : autoParam (∀ v, Fr (fun s => putx s v) ((Γ.set i none).set x none)) Ax9._auto_1) :
  JS Γ (sForBP i x b) (fun s => (tLoopM putx getx fb (get s).2 s).map fun q => .nx (put q.1 ((get s).1, q.2))) Γ E := by
 intro s σ v hs e
 obtain ⟨q, e1, e2⟩ := mp e
 subst e2
 obtain ⟨d, hd, d0, y, rfl, h1, ds, rfl, h2⟩ := hs.get hi
 have h0 : Sat (Γ.set i none) s (σ.set i none) := hs.setn
 obtain ⟨zs, σ', c1, c2, c3⟩ := blM_ok (by simpa using hx) hn hgx hfx hb lb h2 h0 e1
 have hG : Γ.set i (some ⟨get, rT2 ra (rL r)⟩) = Γ := by
  obtain ⟨hlt, he⟩ := List.getElem?_eq_some_iff.mp hi
  rw [← he, List.set_getElem_self hlt]
 refine ⟨.nx (σ'.set i (some (.tup [d0, .lst true zs]))), ?_, ?_⟩
 ·simp only [sForBP, hd, show x < σ.length by rw [hs.len]; exact hx, if_true, c1, map_some, Out.upd]
 ·have q := Sat.put (i := i) (get := get) (put := put) (r := rT2 ra (rL r)) (v := ((get s).1, q.2)) (d := .tup [d0, .lst true zs]) c3 hg (by rw [List.set_set]; exact hf) ⟨d0, .lst true zs, rfl, h1, zs, rfl, c2⟩
  rw [List.set_set, hG] at q
  exact q
end
end TT
namespace RK
theorem spans_lt' {B : Nat} : ∀ {rs : List Nat} {x : Nat}, (∀ r ∈ rs, r < 2 ^ B) → x ∈ spans rs → x < 2 ^ B := by
 intro rs
 induction rs with
 | nil => intro x _ h; simp only [spans, List.mem_singleton] at h; subst h; exact Nat.pow_pos (by decide)
 | cons r rs ih =>
  intro x h hx
  simp only [spans, List.mem_append, List.mem_map] at hx
  rcases hx with hx | ⟨a, ha, rfl⟩
  ·exact ih (fun q hq => h q (by simp [hq])) hx
  ·exact Nat.xor_lt_two_pow (h r (by simp)) (ih (fun q hq => h q (by simp [hq])) ha)
noncomputable def up (M : Nat) (x : Nat) : Nat := x * 2 ^ M
theorem up_xor (M x y : Nat) : up M (x ^^^ y) = up M x ^^^ up M y := by
 unfold up
 rw [← Nat.shiftLeft_eq, ← Nat.shiftLeft_eq, ← Nat.shiftLeft_eq, Nat.shiftLeft_xor_distrib]
theorem up_zero (M : Nat) : up M 0 = 0 := by unfold up; simp
theorem up_bit (M x i : Nat) : (up M x).testBit i = (decide (M ≤ i) && x.testBit (i - M)) := by
 unfold up
 rw [← Nat.shiftLeft_eq, Nat.testBit_shiftLeft]
theorem span_sum {M : Nat} : ∀ {as bs : List Nat} {x : Nat}, x ∈ spans (as ++ bs.map (up M)) ↔ ∃ a b, a ∈ spans as ∧ b ∈ spans bs ∧ x = a ^^^ up M b := by
 intro as bs x
 constructor
 ·intro h
  have h1 : ∀ r ∈ as ++ bs.map (up M), ∃ a b, a ∈ spans as ∧ b ∈ spans bs ∧ r = a ^^^ up M b := by
   intro r hr
   rcases List.mem_append.mp hr with hr | hr
   ·exact ⟨r, 0, spans_row hr, spans_zero bs, by rw [up_zero, Nat.xor_zero]⟩
   ·obtain ⟨b, hb, rfl⟩ := List.mem_map.mp hr
    exact ⟨0, b, spans_zero as, spans_row hb, by rw [Nat.zero_xor]⟩
  have go : ∀ (rs : List Nat) (y : Nat), (∀ r ∈ rs, ∃ a b, a ∈ spans as ∧ b ∈ spans bs ∧ r = a ^^^ up M b) → y ∈ spans rs → ∃ a b, a ∈ spans as ∧ b ∈ spans bs ∧ y = a ^^^ up M b := by
   intro rs
   induction rs with
   | nil =>
    intro y _ hy
    have : y = 0 := by simpa [spans] using hy
    exact ⟨0, 0, spans_zero as, spans_zero bs, by rw [this, up_zero]; rfl⟩
   | cons r rs ih =>
    intro y hr hy
    have hy' : y ∈ spans rs ∨ ∃ z ∈ spans rs, y = z ^^^ r ∨ y = r ^^^ z := by
     simp only [spans, List.mem_append, List.mem_map] at hy
     rcases hy with hy | ⟨z, hz, e⟩
     ·exact .inl hy
     ·exact .inr ⟨z, hz, by first | exact .inl e.symm | exact .inr e.symm⟩
    rcases hy' with hy | ⟨z, hz, e⟩
    ·exact ih y (fun r' h' => hr r' (List.mem_cons_of_mem _ h')) hy
    ·obtain ⟨a1, b1, h1, h2, e1⟩ := ih z (fun r' h' => hr r' (List.mem_cons_of_mem _ h')) hz
     obtain ⟨a2, b2, h3, h4, e2⟩ := hr r List.mem_cons_self
     refine ⟨a1 ^^^ a2, b1 ^^^ b2, spans_xor h1 h3, spans_xor h2 h4, ?_⟩
     have ez : z ^^^ r = (a1 ^^^ a2) ^^^ up M (b1 ^^^ b2) := by
      rw [up_xor, e1, e2]
      rw [Nat.xor_assoc, Nat.xor_assoc, ← Nat.xor_assoc (up M b1), Nat.xor_comm (up M b1) a2, Nat.xor_assoc]
     rcases e with e | e
     ·rw [e, ez]
     ·rw [e, Nat.xor_comm, ez]
  exact go _ x h1 h
 ·rintro ⟨a, b, ha, hb, rfl⟩
  refine spans_xor (spans_sub (fun r hr => spans_row (List.mem_append_left _ hr)) ha) ?_
  have hu : ∀ {bs : List Nat} {b : Nat}, b ∈ spans bs → up M b ∈ spans (bs.map (up M)) := by
   intro bs
   induction bs with
   | nil =>
    intro b hb
    have : b = 0 := by simpa [spans] using hb
    rw [this, up_zero]
    exact spans_zero _
   | cons r rs ih =>
    intro b hb
    simp only [spans, List.mem_append, List.mem_map] at hb
    rcases hb with hb | ⟨z, hz, e⟩
    ·exact spans_sub (fun q hq => spans_row (by simp [List.mem_map] at hq ⊢; exact .inr hq)) (ih hb)
    ·have h1 : up M z ∈ spans ((r :: rs).map (up M)) := spans_sub (fun q hq => spans_row (by simp [List.mem_map] at hq ⊢; exact .inr hq)) (ih hz)
     have h2 : up M r ∈ spans ((r :: rs).map (up M)) := spans_row (by simp)
     have h3 := spans_xor h1 h2
     rw [← up_xor] at h3
     rw [← e]
     first | exact h3 | (rw [Nat.xor_comm]; exact h3)
  exact spans_sub (fun q hq => spans_row (List.mem_append_right _ hq)) (hu hb)
theorem low_high {M a b c d : Nat} (ha : a < 2 ^ M) (hc : c < 2 ^ M) (h : a ^^^ up M b = c ^^^ up M d) : a = c ∧ b = d := by
 have lo : ∀ (z w i : Nat), z < 2 ^ M → (z ^^^ up M w).testBit i = (if i < M then z.testBit i else w.testBit (i - M)) := by
  intro z w i hz
  rw [Nat.testBit_xor, up_bit]
  by_cases hi : i < M
  ·rw [if_pos hi, decide_eq_false (by omega)]; simp
  ·rw [if_neg hi, decide_eq_true (by omega), Nat.testBit_lt_two_pow (Nat.lt_of_lt_of_le hz (Nat.pow_le_pow_right (by decide) (Nat.le_of_not_lt hi)))]
   simp
 constructor
 ·apply Nat.eq_of_testBit_eq
  intro i
  by_cases hi : i < M
  ·have h1 := lo a b i ha
   have h2 := lo c d i hc
   rw [h, h2, if_pos hi, if_pos hi] at h1
   exact h1.symm
  ·rw [Nat.testBit_lt_two_pow (Nat.lt_of_lt_of_le ha (Nat.pow_le_pow_right (by decide) (Nat.le_of_not_lt hi))), Nat.testBit_lt_two_pow (Nat.lt_of_lt_of_le hc (Nat.pow_le_pow_right (by decide) (Nat.le_of_not_lt hi)))]
 ·apply Nat.eq_of_testBit_eq
  intro i
  have h1 := lo a b (i + M) ha
  have h2 := lo c d (i + M) hc
  rw [h, h2, if_neg (by omega), if_neg (by omega), Nat.add_sub_cancel] at h1
  exact h1.symm
theorem up_in {M : Nat} {as bs : List Nat} (ha : ∀ a ∈ as, a < 2 ^ M) (x : Nat) : up M x ∈ spans (as ++ bs.map (up M)) ↔ x ∈ spans bs := by
 rw [span_sum]
 constructor
 ·rintro ⟨a, b, h1, h2, e⟩
  have hlt : a < 2 ^ M := spans_lt' ha h1
  obtain ⟨_, e2⟩ := low_high (a := 0) (Nat.pow_pos (by decide)) hlt (by rw [Nat.zero_xor]; exact e)
  rw [e2]; exact h2
 ·intro h
  exact ⟨0, x, spans_zero as, h, by rw [Nat.zero_xor]⟩
theorem gr_up {M : Nat} {as : List Nat} (ha : ∀ a ∈ as, a < 2 ^ M) : ∀ (bs ds : List Nat), gr (as ++ ds.map (up M)) (bs.map (up M)) = gr ds bs := by
 intro bs
 induction bs with
 | nil => intro ds; rfl
 | cons b bs ih =>
  intro ds
  have e1 : ∀ x, x ∈ spans (up M b :: (as ++ ds.map (up M))) ↔ x ∈ spans (as ++ (b :: ds).map (up M)) := fun x =>
   ⟨spans_mem (fun r hr => by simp only [List.mem_cons, List.mem_append, List.map_cons] at hr ⊢; rcases hr with h | h | h; exact .inr (.inl h); exact .inl h; exact .inr (.inr h)),
    spans_mem (fun r hr => by simp only [List.mem_cons, List.mem_append, List.map_cons] at hr ⊢; rcases hr with h | h | h; exact .inr (.inl h); exact .inl h; exact .inr (.inr h))⟩
  simp only [List.map_cons, gr]
  rw [gr_congr _ e1, ih (b :: ds)]
  have e2 := up_in (bs := ds) ha b
  by_cases h : b ∈ spans ds
  ·simp only [h, e2.mpr h, if_true]
  ·rw [if_neg h, if_neg (fun z => h (e2.mp z))]
theorem rk_sum {M : Nat} {as bs : List Nat} (ha : ∀ a ∈ as, a < 2 ^ M) : rk (as ++ bs.map (up M)) = rk as + rk bs := by
 rw [rk_app]
 have := gr_up ha bs []
 simp only [List.map_nil, List.append_nil] at this
 rw [this]; rfl
end RK
namespace LW
open PySem L2 DD
noncomputable def top (i : Nat) : Stmt := PySem.Challenge.pw_telltight_k50_heaps_beside.main.body.getD i (.Pass ⟨0, 0, 0, 0⟩)
noncomputable abbrev s_all_names : Stmt := top 1
noncomputable abbrev s_names_in : Stmt := top 3
noncomputable abbrev s_mask_of : Stmt := top 6
noncomputable abbrev s_less_lines : Stmt := top 7
noncomputable abbrev s_with_line : Stmt := top 8
noncomputable abbrev s_moved_views : Stmt := top 12
noncomputable abbrev s_lcell_at : Stmt := top 16
noncomputable abbrev s_ldraws : Stmt := top 17
noncomputable abbrev s_lbits : Stmt := top 18
noncomputable abbrev s_lmask : Stmt := top 19
noncomputable abbrev s_lrank : Stmt := top 22
noncomputable abbrev s_lcopy : Stmt := top 24
noncomputable abbrev s_lbeside : Stmt := top 27
noncomputable abbrev s_lspoil : Stmt := top 28
noncomputable abbrev s_views_of : Stmt := top 5
noncomputable abbrev s_lines_of : Stmt := top 9
noncomputable abbrev s_beside : Stmt := top 13
noncomputable abbrev s_lheap : Stmt := top 20
noncomputable abbrev s_lmasks : Stmt := top 21
noncomputable abbrev s_rank_of : Stmt := top 10
noncomputable abbrev s_taken : Stmt := top 14
noncomputable abbrev s_ltable : Stmt := top 23
noncomputable abbrev s_coin_table : Stmt := top 11
noncomputable abbrev s_law : Stmt := top 29
theorem sc_all_names : FnScope ["n"] ["n"] (defScope s_all_names) := ⟨rfl, rfl, rfl, by decide +kernel, rfl, by decide +kernel, by decide +kernel⟩
theorem sc_names_in : FnScope ["n", "group"] ["n", "group"] (defScope s_names_in) := ⟨rfl, rfl, rfl, by decide +kernel, rfl, by decide +kernel, by decide +kernel⟩
theorem sc_mask_of : FnScope ["view"] ["view"] (defScope s_mask_of) := ⟨rfl, rfl, rfl, by decide +kernel, rfl, by decide +kernel, by decide +kernel⟩
theorem sc_less_lines : FnScope ["lines", "mask", "made", "lead", "other", "how"] ["lines", "mask", "made"] (defScope s_less_lines) := ⟨rfl, rfl, rfl, by decide +kernel, rfl, by decide +kernel, by decide +kernel⟩
theorem sc_with_line : FnScope ["lines", "mask", "made", "lead", "changed", "other", "there", "how"] ["lines", "mask", "made"] (defScope s_with_line) := ⟨rfl, rfl, rfl, by decide +kernel, rfl, by decide +kernel, by decide +kernel⟩
theorem sc_moved_views : FnScope ["views", "many"] ["views", "many"] (defScope s_moved_views) := ⟨rfl, rfl, rfl, by decide +kernel, rfl, by decide +kernel, by decide +kernel⟩
theorem sc_lcell_at : FnScope ["_law_script", "_law_k"] ["_law_script", "_law_k"] (defScope s_lcell_at) := ⟨rfl, rfl, rfl, by decide +kernel, rfl, by decide +kernel, by decide +kernel⟩
theorem sc_ldraws : FnScope ["_law_cell", "_law_many", "_law_base", "_law_found", "_law_left", "_law_k", "_law_number"] ["_law_cell", "_law_many", "_law_base"] (defScope s_ldraws) := ⟨rfl, rfl, rfl, by decide +kernel, rfl, by decide +kernel, by decide +kernel⟩
theorem sc_lbits : FnScope ["_law_mask_here"] ["_law_mask_here"] (defScope s_lbits) := ⟨rfl, rfl, rfl, by decide +kernel, rfl, by decide +kernel, by decide +kernel⟩
theorem sc_lmask : FnScope ["_law_view"] ["_law_view"] (defScope s_lmask) := ⟨rfl, rfl, rfl, by decide +kernel, rfl, by decide +kernel, by decide +kernel⟩
theorem sc_lrank : FnScope ["_law_masks_here", "_law_rows", "_law_mask_here", "_law_row"] ["_law_masks_here"] (defScope s_lrank) := ⟨rfl, rfl, rfl, by decide +kernel, rfl, by decide +kernel, by decide +kernel⟩
theorem sc_lcopy : FnScope ["_law_heap_here"] ["_law_heap_here"] (defScope s_lcopy) := ⟨rfl, rfl, rfl, by decide +kernel, rfl, by decide +kernel, by decide +kernel⟩
theorem sc_lbeside : FnScope ["_law_one", "_law_other", "_law_views", "_law_name", "_law_row"] ["_law_one", "_law_other"] (defScope s_lbeside) := ⟨rfl, rfl, rfl, by decide +kernel, rfl, by decide +kernel, by decide +kernel⟩
theorem sc_lspoil : FnScope ["_law_heap_here", "_law_row", "_law_view"] ["_law_heap_here"] (defScope s_lspoil) := ⟨rfl, rfl, rfl, by decide +kernel, rfl, by decide +kernel, by decide +kernel⟩
theorem sc_views_of : FnScope ["heap", "g", "found", "name"] ["heap", "g"] (defScope s_views_of) := ⟨rfl, rfl, rfl, by decide +kernel, rfl, by decide +kernel, by decide +kernel⟩
theorem sc_lines_of : FnScope ["views", "lines", "place", "view", "left"] ["views"] (defScope s_lines_of) := ⟨rfl, rfl, rfl, by decide +kernel, rfl, by decide +kernel, by decide +kernel⟩
theorem sc_beside : FnScope ["one", "other", "views"] ["one", "other"] (defScope s_beside) := ⟨rfl, rfl, rfl, by decide +kernel, rfl, by decide +kernel, by decide +kernel⟩
theorem sc_lheap : FnScope ["_law_cell", "_law_n", "_law_most", "_law_digits", "_law_many", "_law_views", "_law_name", "_law_row", "_law_j", "_law_digit", "_law_mask_here"] ["_law_cell", "_law_n", "_law_most"] (defScope s_lheap) := ⟨rfl, rfl, rfl, by decide +kernel, rfl, by decide +kernel, by decide +kernel⟩
theorem sc_lmasks : FnScope ["_law_heap_here", "_law_g", "_law_found", "_law_name"] ["_law_heap_here", "_law_g"] (defScope s_lmasks) := ⟨rfl, rfl, rfl, by decide +kernel, rfl, by decide +kernel, by decide +kernel⟩
theorem sc_rank_of : FnScope ["views"] ["views"] (defScope s_rank_of) := ⟨rfl, rfl, rfl, by decide +kernel, rfl, by decide +kernel, by decide +kernel⟩
theorem sc_taken : FnScope ["heap", "times", "found", "step"] ["heap", "times"] (defScope s_taken) := ⟨rfl, rfl, rfl, by decide +kernel, rfl, by decide +kernel, by decide +kernel⟩
theorem sc_ltable : FnScope ["_law_heap_here"] ["_law_heap_here"] (defScope s_ltable) := ⟨rfl, rfl, rfl, by decide +kernel, rfl, by decide +kernel, by decide +kernel⟩
theorem sc_coin_table : FnScope ["heap"] ["heap"] (defScope s_coin_table) := ⟨rfl, rfl, rfl, by decide +kernel, rfl, by decide +kernel, by decide +kernel⟩
theorem sc_law : FnScope ["_law_script", "_law_k", "_law_cell", "_law_n", "_law_one", "_law_other", "_law_kept", "_law_due", "_law_many", "_law_whole_here", "_law_time", "_law_told"] ["_law_script"] (defScope s_law) := ⟨rfl, rfl, rfl, by decide +kernel, rfl, by decide +kernel, by decide +kernel⟩
noncomputable def c_all_names : DS := (sRet (dS (pOp gSub (pOp gShl (pC (.int 1)) (pV 0)) (pC (.int 1)))))
noncomputable def g_all_names : GF := gOf 1 [] c_all_names
noncomputable def c_names_in : DS := (sRet (dLc 1 (iR1 (aCons (dS (pV 0)) aNil)) (gNm 2) (dTest (dOp gNe (dS (pOp gAnd (pV 1) (pOp gShl (pC (.int 1)) (pV 2)))) (dS (pC (.int 0))))) (dS (pV 2))))
noncomputable def g_names_in : GF := gOf 2 [] c_names_in
noncomputable def c_mask_of : DS := (sRet (dCallB sumD (aCons (dLc 1 (iLst (dCp 0)) (gNm 1) tTrue (dS (pOp gShl (pC (.int 1)) (pV 1)))) aNil)))
noncomputable def g_mask_of : GF := gOf 1 [] c_mask_of
noncomputable def c_less_lines : DS := (sSeq (sForI (iLst (dCp 0)) (gTupD 3 (gConsD (gNm 3) (gConsD (gNm 4) (gConsD (gNm 5) gNilD)))) (sIf (dTest (dOp gNe (dS (pOp gAnd (pV 1) (pV 3))) (dS (pC (.int 0))))) (sSeq (sSet 1 (dS (pOp gXor (pV 1) (pV 4))))
   (sSet 2 (dS (pOp gXor (pV 2) (pV 5))))) sSkip))
   (sRet (dTup (aCons (dS (pV 1)) (aCons (dS (pV 2)) aNil)))))
noncomputable def g_less_lines : GF := gOf 6 [3, 4, 5, 1, 2] c_less_lines
noncomputable def c_with_line : DS := (sSeq (sSet 3 (dS (pOp gShl (pC (.int 1)) (pOp gSub (pBlen (pV 1)) (pC (.int 1))))))
   (sSeq (sSet 4 (dLst aNil))
   (sSeq (sForI (iLst (dCp 0)) (gTupD 3 (gConsD (gNm 5) (gConsD (gNm 6) (gConsD (gNm 7) gNilD)))) (sIf (dTest (dOp gNe (dS (pOp gAnd (pV 6) (pV 3))) (dS (pC (.int 0))))) (sDrop (dAppV 4 (dTup (aCons (dS (pV 5)) (aCons (dS (pOp gXor (pV 6) (pV 1))) (aCons (dS (pOp gXor (pV 7) (pV 2))) aNil)))))) (sDrop (dAppV 4 (dTup (aCons (dS (pV 5)) (aCons (dS (pV 6)) (aCons (dS (pV 7)) aNil))))))))
   (sRet (dCat (dMv 4) (dLst (aCons (dTup (aCons (dS (pV 3)) (aCons (dS (pV 1)) (aCons (dS (pV 2)) aNil)))) aNil)))))))
noncomputable def g_with_line : GF := gOf 8 [3, 4, 5, 6, 7] c_with_line
noncomputable def c_moved_views : DS := (sRet (dLc 1 (iLst (dCp 0)) (gNm 2) tTrue (dLc 1 (iLst (dCp 2)) (gNm 3) tTrue (dS (pOp gAdd (pV 3) (pV 1))))))
noncomputable def g_moved_views : GF := gOf 2 [] c_moved_views
noncomputable def c_lcell_at : DS := (sSeq (sIf (dTest (dOp gLt (dS (pV 1)) (dS (pCall lenD [(pV 0)])))) (sRet (dS (pOp ixD (pV 0) (pV 1)))) sSkip)
   (sRet (dS (pC (.int 0)))))
noncomputable def g_lcell_at : GF := gOf 2 [] c_lcell_at
noncomputable def c_ldraws : DS := (sSeq (sSet 3 (dLst aNil))
   (sSeq (sSet 4 (dS (pV 0)))
   (sSeq (sForI (iR1 (aCons (dS (pV 1)) aNil)) (gNm 5) (sIf (tAndD (dTest (dOp gGe (dS (pCall absD [(pV 0)])) (dS (pOp gPow (pC (.int 10)) (pC (.int 18)))))) (tAndD (dTest (dOp gNe (dS (pV 4)) (dS (pC (.int 0))))) (dTest (dOp gNe (dS (pV 4)) (dS (pNeg (pC (.int 1)))))))) (sSeq (sDrop (dApp 3 [] (pOp gMod (pV 4) (pV 2))))
   (sSet 4 (dS (pOp gFdv (pV 4) (pV 2))))) (sSeq (sSet 6 (dS (pOp gMod (pOp gAdd (pOp gMul (pOp gAdd (pV 0) (pC (.int 1009))) (pC (.int 69621))) (pOp gMul (pC (.int 7919)) (pV 5))) (pC (.int 2147483629)))))
   (sSeq (sSet 6 (dS (pOp gMod (pOp gAdd (pOp gAdd (pOp gMul (pV 6) (pV 6)) (pOp gMul (pC (.int 17)) (pV 5))) (pC (.int 5))) (pC (.int 2147483629)))))
   (sDrop (dApp 3 [] (pOp gMod (pOp gFdv (pOp gMod (pOp gMul (pV 6) (pV 6)) (pC (.int 2147483587))) (pC (.int 64))) (pV 2))))))))
   (sRet (dMv 3)))))
noncomputable def g_ldraws : GF := gOf 7 [3, 4, 5, 4, 6, 6] c_ldraws
noncomputable def c_lbits : DS := (sRet (dLc 1 (iR1 (aCons (dS (pC (.int 41))) aNil)) (gNm 1) (dTest (dOp gEq (dS (pOp gMod (pOp gFdv (pV 0) (pOp gShl (pC (.int 1)) (pV 1))) (pC (.int 2)))) (dS (pC (.int 1))))) (dS (pV 1))))
noncomputable def g_lbits : GF := gOf 1 [] c_lbits
noncomputable def c_lmask : DS := (sRet (dCallB sumD (aCons (dLc 1 (iLst (dCp 0)) (gNm 1) tTrue (dS (pOp gShl (pC (.int 1)) (pV 1)))) aNil)))
noncomputable def g_lmask : GF := gOf 1 [] c_lmask
noncomputable def c_lrank : DS := (sSeq (sSet 1 (dLst aNil))
   (sSeq (sForI (iLst (dCp 0)) (gNm 2) (sSeq (sSel (ownL 1) (sForB 1 3 (sSet 2 (dS (pCall min2D [(pV 2), (pOp gXor (pV 2) (pV 3))])))) (sForI (iLst (dCp 1)) (gNm 3) (sSet 2 (dS (pCall min2D [(pV 2), (pOp gXor (pV 2) (pV 3))])))))
   (sIf (dTest (dOp gGt (dS (pV 2)) (dS (pC (.int 0))))) (sDrop (dApp 1 [] (pV 2))) sSkip)))
   (sRet (dS (pCall lenD [(pV 1)])))))
noncomputable def g_lrank : GF := gOf 4 [1, 2, 3, 2, 3, 2] c_lrank
noncomputable def c_lcopy : DS := (sRet (dTup (aCons (dS (pOp ixD (pV 0) (pC (.int 0)))) (aCons (dLc 1 (iLst (dIx (dCp 0) (dS (pC (.int 1))))) (gNm 1) tTrue (dLc 1 (iLst (dCp 1)) (gNm 2) tTrue (dListB (pV 2)))) aNil))))
noncomputable def g_lcopy : GF := gOf 1 [] c_lcopy
noncomputable def c_lbeside : DS := (sSeq (sSet 2 (dLst aNil))
   (sSeq (sForI (iR1 (aCons (dS (pCall lenD [(pOp ixD (pV 0) (pC (.int 1)))])) aNil)) (gNm 3) (sSeq (sSet 4 (dLc 1 (iLst (dIx (dIx (dCp 0) (dS (pC (.int 1)))) (dS (pV 3)))) (gNm 5) tTrue (dListB (pV 5))))
   (sDrop (dAppV 2 (dCatF (dCp 4) (dLc 1 (iLst (dIx (dIx (dCp 1) (dS (pC (.int 1)))) (dS (pV 3)))) (gNm 5) tTrue (dLc 1 (iLst (dCp 5)) (gNm 6) tTrue (dS (pOp gAdd (pV 6) (pOp ixD (pV 0) (pC (.int 0))))))))))))
   (sRet (dTup (aCons (dS (pOp gAdd (pOp ixD (pV 0) (pC (.int 0))) (pOp ixD (pV 1) (pC (.int 0))))) (aCons (dMv 2) aNil))))))
noncomputable def g_lbeside : GF := gOf 5 [2, 3, 4] c_lbeside
noncomputable def c_lspoil : DS := (sSeq (sForBP 0 1 (sSeq (sSel (ownL 1) (sForB 1 2 (sDrop (dApp 2 [] (pC (.int 99))))) (sForI (iLst (dCp 1)) (gNm 2) (sDrop (dApp 2 [] (pC (.int 99))))))
   (sDrop (dAppV 1 (dLst (aCons (dS (pC (.int 7))) aNil))))))
   (sDrop (dAppL 0 [(pC (.int 1))] [])))
noncomputable def g_lspoil : GF := gOf 3 [1, 2, 2] c_lspoil
noncomputable def c_views_of : DS := (sSeq (sSet 2 (dLst aNil))
   (sSeq (sForI (iLst (dCall g_names_in [.ex (dS (pCall lenD [(pOp ixD (pV 0) (pC (.int 1)))])), .bo 1])) (gNm 3) (sDrop (dExtF 2 (dIx (dIx (dCp 0) (dS (pC (.int 1)))) (dS (pV 3))))))
   (sRet (dMv 2))))
noncomputable def g_views_of : GF := gOf 4 [2, 3] c_views_of
noncomputable def c_lines_of : DS := (sSeq (sSet 1 (dLst aNil))
   (sSeq (sForI (iEnD 0 (dCp 0)) (gTupD 2 (gConsD (gNm 2) (gConsD (gNm 3) gNilD))) (sSeq (sSet 4 (dCall g_less_lines [.bo 1, .ex (dCall g_mask_of [.bo 3]), .ex (dS (pOp gShl (pC (.int 1)) (pV 2)))]))
   (sIf (dTest (dOp gNe (dS (pOp ixD (pV 4) (pC (.int 0)))) (dS (pC (.int 0))))) (sSet 1 (dCall g_with_line [.bo 1, .ex (dS (pOp ixD (pV 4) (pC (.int 0)))), .ex (dS (pOp ixD (pV 4) (pC (.int 1))))])) sSkip)))
   (sRet (dMv 1))))
noncomputable def g_lines_of : GF := gOf 5 [1, 2, 3, 4, 1] c_lines_of
noncomputable def c_beside : DS := (sSeq (sSet 2 (dLc 2 (iZipD (dIx (dCp 0) (dS (pC (.int 1)))) (dIx (dCp 1) (dS (pC (.int 1))))) (gTupD 2 (gConsD (gNm 3) (gConsD (gNm 4) gNilD))) tTrue (dCat (dCall g_moved_views [.bo 3, .ex (dS (pC (.int 0)))]) (dCall g_moved_views [.bo 4, .ex (dS (pOp ixD (pV 0) (pC (.int 0))))]))))
   (sRet (dTup (aCons (dS (pOp gAdd (pOp ixD (pV 0) (pC (.int 0))) (pOp ixD (pV 1) (pC (.int 0))))) (aCons (dMv 2) aNil)))))
noncomputable def g_beside : GF := gOf 3 [2] c_beside
noncomputable def c_lheap : DS := (sSeq (sSet 3 (dCall g_ldraws [.bo 0, .ex (dS (pC (.int 18))), .ex (dS (pC (.int 65536)))]))
   (sSeq (sSet 4 (dS (pOp gMod (pOp ixD (pV 3) (pC (.int 0))) (pOp gAdd (pV 2) (pC (.int 1))))))
   (sSeq (sSet 5 (dLst aNil))
   (sSeq (sForI (iR1 (aCons (dS (pV 1)) aNil)) (gNm 6) (sSeq (sSet 7 (dLst aNil))
   (sSeq (sForI (iR1 (aCons (dS (pOp gMod (pOp ixD (pV 3) (pOp gAdd (pC (.int 1)) (pV 6))) (pC (.int 4)))) aNil)) (gNm 8) (sSeq (sSet 9 (dS (pOp ixD (pV 3) (pOp gAdd (pOp gAdd (pC (.int 5)) (pOp gMul (pC (.int 3)) (pV 6))) (pV 8)))))
   (sSeq (sSet 10 (dS (pOp gMod (pV 9) (pOp gShl (pC (.int 1)) (pV 4)))))
   (sSeq (sIf (dTest (dOp gGt (dS (pV 4)) (dS (pC (.int 16))))) sNone sSkip)
   (sDrop (dAppV 7 (dCall g_lbits [.bo 10])))))))
   (sDrop (dAppV 5 (dMv 7))))))
   (sRet (dTup (aCons (dS (pV 4)) (aCons (dMv 5) aNil))))))))
noncomputable def g_lheap : GF := gOf 11 [3, 4, 5, 6, 7, 8, 9, 10] c_lheap
noncomputable def c_lmasks : DS := (sSeq (sSet 2 (dLst aNil))
   (sSeq (sForI (iR1 (aCons (dS (pCall lenD [(pOp ixD (pV 0) (pC (.int 1)))])) aNil)) (gNm 3) (sIf (dTest (dOp gEq (dS (pOp gMod (pOp gFdv (pV 1) (pOp gShl (pC (.int 1)) (pV 3))) (pC (.int 2)))) (dS (pC (.int 1))))) (sSet 2 (dCat (dMv 2) (dLc 1 (iLst (dIx (dIx (dCp 0) (dS (pC (.int 1)))) (dS (pV 3)))) (gNm 4) tTrue (dCall g_lmask [.bo 4])))) sSkip))
   (sRet (dMv 2))))
noncomputable def g_lmasks : GF := gOf 4 [2, 3, 2] c_lmasks
noncomputable def c_rank_of : DS := (sRet (dCallB lenD (aCons (dCall g_lines_of [.bo 0]) aNil)))
noncomputable def g_rank_of : GF := gOf 1 [] c_rank_of
noncomputable def c_taken : DS := (sSeq (sSet 2 (dTup (aCons (dS (pC (.int 0))) (aCons (dLc 1 (iLst (dIx (dCp 0) (dS (pC (.int 1))))) (gNm 4) tTrue (dLst aNil)) aNil))))
   (sSeq (sForI (iR1 (aCons (dS (pV 1)) aNil)) (gNm 3) (sSet 2 (dCall g_beside [.bo 2, .bo 0])))
   (sRet (dMv 2))))
noncomputable def g_taken : GF := gOf 4 [2, 3, 2] c_taken
noncomputable def c_ltable : DS := (sRet (dLc 1 (iR2 (aCons (dS (pC (.int 1))) (aCons (dS (pOp gShl (pC (.int 1)) (pCall lenD [(pOp ixD (pV 0) (pC (.int 1)))]))) aNil))) (gNm 1) tTrue (dCall g_lrank [.ex (dCall g_lmasks [.bo 0, .bo 1])])))
noncomputable def g_ltable : GF := gOf 1 [] c_ltable
noncomputable def c_coin_table : DS := (sRet (dLc 1 (iR2 (aCons (dS (pC (.int 1))) (aCons (dOp gAdd (dCall g_all_names [.ex (dS (pCall lenD [(pOp ixD (pV 0) (pC (.int 1)))]))]) (dS (pC (.int 1)))) aNil))) (gNm 1) tTrue (dCall g_rank_of [.ex (dCall g_views_of [.bo 0, .bo 1])])))
noncomputable def g_coin_table : GF := gOf 1 [] c_coin_table
noncomputable def c_law : DS := (sSeq (sForI (iTwD (aCons (dS (pC (.int 0))) (aCons (dS (pCall max2D [(pC (.int 2)), (pCall min2D [(pC (.int 40)), (pOp gSub (pCall lenD [(pV 0)]) (pC (.int 1)))])])) (aCons (dS (pC (.int 2))) aNil)))) (gNm 1) (sSeq (sSet 2 (dCall g_lcell_at [.bo 0, .bo 1]))
   (sSeq (sSet 3 (dS (pOp gAdd (pC (.int 1)) (pOp gMod (pV 2) (pC (.int 4))))))
   (sSeq (sSet 4 (dCall g_lheap [.ex (dS (pOp gFdv (pV 2) (pC (.int 4)))), .bo 3, .ex (dS (pC (.int 12)))]))
   (sSeq (sSet 5 (dCall g_lheap [.ex (dCall g_lcell_at [.bo 0, .ex (dS (pOp gAdd (pV 1) (pC (.int 1))))]), .bo 3, .ex (dS (pC (.int 12)))]))
   (sSeq (sSet 6 (dLst (aCons (dCall g_lcopy [.bo 4]) (aCons (dCall g_lcopy [.bo 5]) aNil))))
   (sSeq (sSet 7 (dCall g_lbeside [.ex (dIx (dCp 6) (dS (pC (.int 0)))), .ex (dIx (dCp 6) (dS (pC (.int 1))))]))
   (sSeq (sSet 8 (dS (pOp gMod (pOp gFdv (pV 2) (pC (.int 4))) (pC (.int 4)))))
   (sSeq (sSet 9 (dTup (aCons (dS (pC (.int 0))) (aCons (dLc 1 (iR1 (aCons (dS (pV 3)) aNil)) (gNm 12) tTrue (dLst aNil)) aNil))))
   (sSeq (sForI (iR1 (aCons (dS (pV 8)) aNil)) (gNm 10) (sSet 9 (dCall g_lbeside [.bo 9, .ex (dIx (dCp 6) (dS (pC (.int 0))))])))
   (sSeq (sForI (iR1 (aCons (dS (pC (.int 2))) aNil)) (gNm 10) (sSeq (sSet 11 (dCall g_beside [.bo 4, .bo 5]))
   (sSeq (sIf (tOrD (tNotD (dTest (dS (pCall isiD [(pV 11), (pC (.ty "tuple"))])))) (tOrD (tNotD (dTest (dS (pCall isiD [(pOp ixD (pV 11) (pC (.int 1))), (pC (.ty "list"))])))) (tOrD (dTest (dS (pOp gNe (pV 11) (pV 7)))) (dTest (dS (pOp gNe (pLst [(pV 4), (pV 5)]) (pV 6))))))) sNone sSkip)
   (sSeq (sIf (dTest (dOp gNe (dHide 9 (dHide 7 (dHide 6 (dHide 5 (dHide 4 (dHide 0 (dThaw 11 (dCall g_coin_table [.bo 11])))))))) (dLc 2 (iZipD (dCall g_ltable [.ex (dIx (dCp 6) (dS (pC (.int 0))))]) (dCall g_ltable [.ex (dIx (dCp 6) (dS (pC (.int 1))))])) (gTupD 2 (gConsD (gNm 12) (gConsD (gNm 13) gNilD))) tTrue (dS (pOp gAdd (pV 12) (pV 13)))))) sNone sSkip)
   (sSeq (sDrop (dCall g_lspoil [.bo 11]))
   (sSeq (sSet 11 (dCall g_taken [.bo 4, .bo 8]))
   (sSeq (sIf (tOrD (tNotD (dTest (dS (pCall isiD [(pV 11), (pC (.ty "tuple"))])))) (tOrD (dTest (dS (pOp gNe (pV 11) (pV 9)))) (dTest (dS (pOp gNe (pV 4) (pOp ixD (pV 6) (pC (.int 0)))))))) sNone sSkip)
   (sDrop (dCall g_lspoil [.bo 11])))))))))
   (sIf (tOrD (dTest (dOp gNe (dCall g_beside [.ex (dCp 4), .ex (dCp 4)]) (dCall g_lbeside [.ex (dIx (dCp 6) (dS (pC (.int 0)))), .ex (dIx (dCp 6) (dS (pC (.int 0))))]))) (dTest (dS (pOp gNe (pLst [(pV 4), (pV 5)]) (pV 6))))) sNone sSkip))))))))))))
   (sRet (dS (pC (.bl true)))))
noncomputable def g_law : GF := gOf 12 [1, 2, 3, 4, 5, 6, 7, 8, 9, 10, 9, 10, 11, 11] c_law
set_option genInjectivity false
set_option genSizeOfSpec false
set_option genSizeOf false
structure Txt (K : PySem.W.Frag) (mg : Str → Option Value) where
 a_all_names : Addr
 d_all_names : FuncData
 a_names_in : Addr
 d_names_in : FuncData
 a_mask_of : Addr
 d_mask_of : FuncData
 a_less_lines : Addr
 d_less_lines : FuncData
 a_with_line : Addr
 d_with_line : FuncData
 a_moved_views : Addr
 d_moved_views : FuncData
 a_lcell_at : Addr
 d_lcell_at : FuncData
 a_ldraws : Addr
 d_ldraws : FuncData
 a_lbits : Addr
 d_lbits : FuncData
 a_lmask : Addr
 d_lmask : FuncData
 a_lrank : Addr
 d_lrank : FuncData
 a_lcopy : Addr
 d_lcopy : FuncData
 a_lbeside : Addr
 d_lbeside : FuncData
 a_lspoil : Addr
 d_lspoil : FuncData
 a_views_of : Addr
 d_views_of : FuncData
 a_lines_of : Addr
 d_lines_of : FuncData
 a_beside : Addr
 d_beside : FuncData
 a_lheap : Addr
 d_lheap : FuncData
 a_lmasks : Addr
 d_lmasks : FuncData
 a_rank_of : Addr
 d_rank_of : FuncData
 a_taken : Addr
 d_taken : FuncData
 a_ltable : Addr
 d_ltable : FuncData
 a_coin_table : Addr
 d_coin_table : FuncData
structure Tx {K : PySem.W.Frag} {mg : Str → Option Value} (t : Txt K mg) : Prop where
 F_all_names : Fun K "all_names" "all_names" s_all_names t.a_all_names t.d_all_names
 m_all_names : mg "all_names" = some (.ref t.a_all_names)
 n_all_names : Binds K t.d_all_names ["n"] []
 F_names_in : Fun K "names_in" "names_in" s_names_in t.a_names_in t.d_names_in
 m_names_in : mg "names_in" = some (.ref t.a_names_in)
 n_names_in : Binds K t.d_names_in ["n", "group"] []
 F_mask_of : Fun K "mask_of" "mask_of" s_mask_of t.a_mask_of t.d_mask_of
 m_mask_of : mg "mask_of" = some (.ref t.a_mask_of)
 n_mask_of : Binds K t.d_mask_of ["view"] []
 F_less_lines : Fun K "less_lines" "less_lines" s_less_lines t.a_less_lines t.d_less_lines
 m_less_lines : mg "less_lines" = some (.ref t.a_less_lines)
 n_less_lines : Binds K t.d_less_lines ["lines", "mask", "made"] []
 F_with_line : Fun K "with_line" "with_line" s_with_line t.a_with_line t.d_with_line
 m_with_line : mg "with_line" = some (.ref t.a_with_line)
 n_with_line : Binds K t.d_with_line ["lines", "mask", "made"] []
 F_moved_views : Fun K "moved_views" "moved_views" s_moved_views t.a_moved_views t.d_moved_views
 m_moved_views : mg "moved_views" = some (.ref t.a_moved_views)
 n_moved_views : Binds K t.d_moved_views ["views", "many"] []
 F_lcell_at : Fun K "_law_cell_at" "_law_cell_at" s_lcell_at t.a_lcell_at t.d_lcell_at
 m_lcell_at : mg "_law_cell_at" = some (.ref t.a_lcell_at)
 n_lcell_at : Binds K t.d_lcell_at ["_law_script", "_law_k"] []
 F_ldraws : Fun K "_law_draws" "_law_draws" s_ldraws t.a_ldraws t.d_ldraws
 m_ldraws : mg "_law_draws" = some (.ref t.a_ldraws)
 n_ldraws : Binds K t.d_ldraws ["_law_cell", "_law_many", "_law_base"] []
 F_lbits : Fun K "_law_bits" "_law_bits" s_lbits t.a_lbits t.d_lbits
 m_lbits : mg "_law_bits" = some (.ref t.a_lbits)
 n_lbits : Binds K t.d_lbits ["_law_mask_here"] []
 F_lmask : Fun K "_law_mask" "_law_mask" s_lmask t.a_lmask t.d_lmask
 m_lmask : mg "_law_mask" = some (.ref t.a_lmask)
 n_lmask : Binds K t.d_lmask ["_law_view"] []
 F_lrank : Fun K "_law_rank" "_law_rank" s_lrank t.a_lrank t.d_lrank
 m_lrank : mg "_law_rank" = some (.ref t.a_lrank)
 n_lrank : Binds K t.d_lrank ["_law_masks_here"] []
 F_lcopy : Fun K "_law_copy" "_law_copy" s_lcopy t.a_lcopy t.d_lcopy
 m_lcopy : mg "_law_copy" = some (.ref t.a_lcopy)
 n_lcopy : Binds K t.d_lcopy ["_law_heap_here"] []
 F_lbeside : Fun K "_law_beside" "_law_beside" s_lbeside t.a_lbeside t.d_lbeside
 m_lbeside : mg "_law_beside" = some (.ref t.a_lbeside)
 n_lbeside : Binds K t.d_lbeside ["_law_one", "_law_other"] []
 F_lspoil : Fun K "_law_spoil" "_law_spoil" s_lspoil t.a_lspoil t.d_lspoil
 m_lspoil : mg "_law_spoil" = some (.ref t.a_lspoil)
 n_lspoil : Binds K t.d_lspoil ["_law_heap_here"] []
 F_views_of : Fun K "views_of" "views_of" s_views_of t.a_views_of t.d_views_of
 m_views_of : mg "views_of" = some (.ref t.a_views_of)
 n_views_of : Binds K t.d_views_of ["heap", "g"] []
 F_lines_of : Fun K "lines_of" "lines_of" s_lines_of t.a_lines_of t.d_lines_of
 m_lines_of : mg "lines_of" = some (.ref t.a_lines_of)
 n_lines_of : Binds K t.d_lines_of ["views"] []
 F_beside : Fun K "beside" "beside" s_beside t.a_beside t.d_beside
 m_beside : mg "beside" = some (.ref t.a_beside)
 n_beside : Binds K t.d_beside ["one", "other"] []
 F_lheap : Fun K "_law_heap" "_law_heap" s_lheap t.a_lheap t.d_lheap
 m_lheap : mg "_law_heap" = some (.ref t.a_lheap)
 n_lheap : Binds K t.d_lheap ["_law_cell", "_law_n", "_law_most"] []
 F_lmasks : Fun K "_law_masks" "_law_masks" s_lmasks t.a_lmasks t.d_lmasks
 m_lmasks : mg "_law_masks" = some (.ref t.a_lmasks)
 n_lmasks : Binds K t.d_lmasks ["_law_heap_here", "_law_g"] []
 F_rank_of : Fun K "rank_of" "rank_of" s_rank_of t.a_rank_of t.d_rank_of
 m_rank_of : mg "rank_of" = some (.ref t.a_rank_of)
 n_rank_of : Binds K t.d_rank_of ["views"] []
 F_taken : Fun K "taken" "taken" s_taken t.a_taken t.d_taken
 m_taken : mg "taken" = some (.ref t.a_taken)
 n_taken : Binds K t.d_taken ["heap", "times"] []
 F_ltable : Fun K "_law_table" "_law_table" s_ltable t.a_ltable t.d_ltable
 m_ltable : mg "_law_table" = some (.ref t.a_ltable)
 n_ltable : Binds K t.d_ltable ["_law_heap_here"] []
 F_coin_table : Fun K "coin_table" "coin_table" s_coin_table t.a_coin_table t.d_coin_table
 m_coin_table : mg "coin_table" = some (.ref t.a_coin_table)
 n_coin_table : Binds K t.d_coin_table ["heap"] []
 b_abs : mg "abs" = none
 b_enumerate : mg "enumerate" = none
 b_isinstance : mg "isinstance" = none
 b_len : mg "len" = none
 b_list : mg "list" = none
 b_max : mg "max" = none
 b_min : mg "min" = none
 b_range : mg "range" = none
 b_sum : mg "sum" = none
 b_tuple : mg "tuple" = none
 b_zip : mg "zip" = none
section
variable {P : Program} {w : World} {K : PySem.W.Frag} {mg : Str → Option Value} {base : Heap} {t : Txt K mg}
theorem ok_all_names (T : Tx t) : FnOk P w K mg base CX0 1 t.a_all_names t.d_all_names ["n"] (spD K 1 g_all_names) := by
 refine fn_D (N := ["n"]) (W := []) T.F_all_names sc_all_names (by decide) fun cdv A outer s H E hr => ?_
 have hu := hr.units
 exact (qss_one (qs_ret (qe_s (qb_op o_sub (qb_op o_shl qb_int (qb_v 0)) qb_int))))
theorem ok_names_in (T : Tx t) : FnOk P w K mg base CX0 1 t.a_names_in t.d_names_in ["n", "group"] (spD K 2 g_names_in) := by
 refine fn_D (N := ["n", "group"]) (W := []) T.F_names_in sc_names_in (by decide) fun cdv A outer s H E hr => ?_
 have hu := hr.units
 exact (qss_one (qs_ret (lc_e ["n", "group", "k"] (qi_r1 (by rfl) T.b_range (qa_cons (qe_s (qb_v 0)) qa_nil)) (fun _ _ _ _ _ => by exact (qg_name 2 (show List.Nodup (["n", "group", "k"] : List Str) by decide +kernel))) (fun _ _ _ _ _ => by exact (qif_one (qt_cmp (o_ne hu) (qe_s (qb_op o_and (qb_v 1) (qb_op o_shl qb_int (qb_v 2)))) (qe_s qb_int) (nomark _)))) (fun _ _ _ _ _ => by exact (qe_s (qb_v 2))))))
theorem ok_mask_of (T : Tx t) : FnOk P w K mg base CX0 1 t.a_mask_of t.d_mask_of ["view"] (spD K 1 g_mask_of) := by
 refine fn_D (N := ["view"]) (W := []) T.F_mask_of sc_mask_of (by decide) fun cdv A outer s H E hr => ?_
 have hu := hr.units
 exact (qss_one (qs_ret (qe_fn (id := "sum") (c_sum (by rfl)) (by rfl) T.b_sum (by decide +kernel) (qa_cons (lc_e ["view", "coin"] (qi_lst (qe_cp 0)) (fun _ _ _ _ _ => by exact (qg_name 1 (show List.Nodup (["view", "coin"] : List Str) by decide +kernel))) (fun _ _ _ _ _ => by exact qif_nil) (fun _ _ _ _ _ => by exact (qe_s (qb_op o_shl qb_int (qb_v 1))))) qa_nil))))
theorem ok_less_lines (T : Tx t) : FnOk P w K mg base CX0 1 t.a_less_lines t.d_less_lines ["lines", "mask", "made"] (spD K 3 g_less_lines) := by
 refine fn_D (N := ["lines", "mask", "made", "lead", "other", "how"]) (W := [3, 4, 5, 1, 2]) T.F_less_lines sc_less_lines (by decide) fun cdv A outer s H E hr => ?_
 have hu := hr.units
 exact (qss_cons (qs_forI (by rfl) (qi_lst (qe_cp 0)) (qg_tup (by rfl) (qgs_cons (qg_name 3 sc_less_lines.nd) (qgs_cons (qg_name 4 sc_less_lines.nd) (qgs_cons (qg_name 5 sc_less_lines.nd) qgs_nil)))) (qss_one (qs_if (qt_cmp (o_ne hu) (qe_s (qb_op o_and (qb_v 1) (qb_v 3))) (qe_s qb_int) (nomark _)) (qss_cons (qs_set 1 sc_less_lines.nd (qe_s (qb_op o_xor (qb_v 1) (qb_v 4))))
   (qss_one (qs_set 2 sc_less_lines.nd (qe_s (qb_op o_xor (qb_v 2) (qb_v 5)))))) qss_nil)) PassesOwn.never)
   (qss_one (qs_ret (qe_tup (qa_cons (qe_s (qb_v 1)) (qa_cons (qe_s (qb_v 2)) qa_nil))))))
theorem ok_with_line (T : Tx t) : FnOk P w K mg base CX0 1 t.a_with_line t.d_with_line ["lines", "mask", "made"] (spD K 3 g_with_line) := by
 refine fn_D (N := ["lines", "mask", "made", "lead", "changed", "other", "there", "how"]) (W := [3, 4, 5, 6, 7]) T.F_with_line sc_with_line (by decide) fun cdv A outer s H E hr => ?_
 have hu := hr.units
 exact (qss_cons (qs_set 3 sc_with_line.nd (qe_s (qb_op o_shl qb_int (qb_op o_sub (qb_blen (qb_v 1)) qb_int))))
   (qss_cons (qs_set 4 sc_with_line.nd (qe_lst qa_nil))
   (qss_cons (qs_forI (by rfl) (qi_lst (qe_cp 0)) (qg_tup (by rfl) (qgs_cons (qg_name 5 sc_with_line.nd) (qgs_cons (qg_name 6 sc_with_line.nd) (qgs_cons (qg_name 7 sc_with_line.nd) qgs_nil)))) (qss_one (qs_if (qt_cmp (o_ne hu) (qe_s (qb_op o_and (qb_v 6) (qb_v 3))) (qe_s qb_int) (nomark _)) (qss_one (qs_expr (qe_appV 4 (qe_tup (qa_cons (qe_s (qb_v 5)) (qa_cons (qe_s (qb_op o_xor (qb_v 6) (qb_v 1))) (qa_cons (qe_s (qb_op o_xor (qb_v 7) (qb_v 2))) qa_nil))))))) (qss_one (qs_expr (qe_appV 4 (qe_tup (qa_cons (qe_s (qb_v 5)) (qa_cons (qe_s (qb_v 6)) (qa_cons (qe_s (qb_v 7)) qa_nil))))))))) PassesOwn.never)
   (qss_one (qs_ret (qe_cat (qe_mv 4) (qe_lst (qa_cons (qe_tup (qa_cons (qe_s (qb_v 3)) (qa_cons (qe_s (qb_v 1)) (qa_cons (qe_s (qb_v 2)) qa_nil)))) qa_nil))))))))
theorem ok_moved_views (T : Tx t) : FnOk P w K mg base CX0 1 t.a_moved_views t.d_moved_views ["views", "many"] (spD K 2 g_moved_views) := by
 refine fn_D (N := ["views", "many"]) (W := []) T.F_moved_views sc_moved_views (by decide) fun cdv A outer s H E hr => ?_
 have hu := hr.units
 exact (qss_one (qs_ret (lc_e ["views", "many", "view"] (qi_lst (qe_cp 0)) (fun _ _ _ _ _ => by exact (qg_name 2 (show List.Nodup (["views", "many", "view"] : List Str) by decide +kernel))) (fun _ _ _ _ _ => by exact qif_nil) (fun _ _ _ _ _ => by exact (lc_e ["views", "many", "view", "coin"] (qi_lst (qe_cp 2)) (fun _ _ _ _ _ => by exact (qg_name 3 (show List.Nodup (["views", "many", "view", "coin"] : List Str) by decide +kernel))) (fun _ _ _ _ _ => by exact qif_nil) (fun _ _ _ _ _ => by exact (qe_s (qb_op o_add (qb_v 3) (qb_v 1)))))))))
theorem ok_lcell_at (T : Tx t) : FnOk P w K mg base CX0 1 t.a_lcell_at t.d_lcell_at ["_law_script", "_law_k"] (spD K 2 g_lcell_at) := by
 refine fn_D (N := ["_law_script", "_law_k"]) (W := []) T.F_lcell_at sc_lcell_at (by decide) fun cdv A outer s H E hr => ?_
 have hu := hr.units
 exact (qss_cons (qs_if (qt_cmp o_lt (qe_s (qb_v 1)) (qe_s (qb_fn (id := "len") c_len (by rfl) T.b_len (by decide +kernel) (qba_cons (qb_v 0) qba_nil))) (nomark _)) (qss_one (qs_ret (qe_s (qb_ix (qb_v 0) (qb_v 1))))) qss_nil)
   (qss_one (qs_ret (qe_s qb_int))))
theorem ok_ldraws (T : Tx t) : FnOk P w K mg base CX0 1 t.a_ldraws t.d_ldraws ["_law_cell", "_law_many", "_law_base"] (spD K 3 g_ldraws) := by
 refine fn_D (N := ["_law_cell", "_law_many", "_law_base", "_law_found", "_law_left", "_law_k", "_law_number"]) (W := [3, 4, 5, 4, 6, 6]) T.F_ldraws sc_ldraws (by decide) fun cdv A outer s H E hr => ?_
 have hu := hr.units
 exact (qss_cons (qs_set 3 sc_ldraws.nd (qe_lst qa_nil))
   (qss_cons (qs_set 4 sc_ldraws.nd (qe_s (qb_v 0)))
   (qss_cons (qs_forI (by rfl) (qi_r1 (by rfl) T.b_range (qa_cons (qe_s (qb_v 1)) qa_nil)) (qg_name 5 sc_ldraws.nd) (qss_one (qs_if (qw_t (qw_and (qt_cmp o_ge (qe_s (qb_fn (id := "abs") c_abs (by rfl) T.b_abs (by decide +kernel) (qba_cons (qb_v 0) qba_nil))) (qe_s (qb_op o_pow qb_int qb_int)) (nomark _)) (qw_and (qt_cmp (o_ne hu) (qe_s (qb_v 4)) (qe_s qb_int) (nomark _)) (qw_and1 (qt_cmp (o_ne hu) (qe_s (qb_v 4)) (qe_s (qb_neg qb_int)) (nomark _)))))) (qss_cons (qs_expr (qe_appP (qp_v 3) (qb_op o_mod (qb_v 4) (qb_v 2))))
   (qss_one (qs_set 4 sc_ldraws.nd (qe_s (qb_op o_fdv (qb_v 4) (qb_v 2)))))) (qss_cons (qs_set 6 sc_ldraws.nd (qe_s (qb_op o_mod (qb_op o_add (qb_op o_mul (qb_op o_add (qb_v 0) qb_int) qb_int) (qb_op o_mul qb_int (qb_v 5))) qb_int)))
   (qss_cons (qs_set 6 sc_ldraws.nd (qe_s (qb_op o_mod (qb_op o_add (qb_op o_add (qb_op o_mul (qb_v 6) (qb_v 6)) (qb_op o_mul qb_int (qb_v 5))) qb_int) qb_int)))
   (qss_one (qs_expr (qe_appP (qp_v 3) (qb_op o_mod (qb_op o_fdv (qb_op o_mod (qb_op o_mul (qb_v 6) (qb_v 6)) qb_int) qb_int) (qb_v 2))))))))) PassesOwn.never)
   (qss_one (qs_ret (qe_mv 3))))))
theorem ok_lbits (T : Tx t) : FnOk P w K mg base CX0 1 t.a_lbits t.d_lbits ["_law_mask_here"] (spD K 1 g_lbits) := by
 refine fn_D (N := ["_law_mask_here"]) (W := []) T.F_lbits sc_lbits (by decide) fun cdv A outer s H E hr => ?_
 have hu := hr.units
 exact (qss_one (qs_ret (lc_e ["_law_mask_here", "_law_k"] (qi_r1 (by rfl) T.b_range (qa_cons (qe_s qb_int) qa_nil)) (fun _ _ _ _ _ => by exact (qg_name 1 (show List.Nodup (["_law_mask_here", "_law_k"] : List Str) by decide +kernel))) (fun _ _ _ _ _ => by exact (qif_one (qt_cmp (o_eq hu) (qe_s (qb_op o_mod (qb_op o_fdv (qb_v 0) (qb_op o_shl qb_int (qb_v 1))) qb_int)) (qe_s qb_int) (nomark _)))) (fun _ _ _ _ _ => by exact (qe_s (qb_v 1))))))
theorem ok_lmask (T : Tx t) : FnOk P w K mg base CX0 1 t.a_lmask t.d_lmask ["_law_view"] (spD K 1 g_lmask) := by
 refine fn_D (N := ["_law_view"]) (W := []) T.F_lmask sc_lmask (by decide) fun cdv A outer s H E hr => ?_
 have hu := hr.units
 exact (qss_one (qs_ret (qe_fn (id := "sum") (c_sum (by rfl)) (by rfl) T.b_sum (by decide +kernel) (qa_cons (lc_e ["_law_view", "_law_coin"] (qi_lst (qe_cp 0)) (fun _ _ _ _ _ => by exact (qg_name 1 (show List.Nodup (["_law_view", "_law_coin"] : List Str) by decide +kernel))) (fun _ _ _ _ _ => by exact qif_nil) (fun _ _ _ _ _ => by exact (qe_s (qb_op o_shl qb_int (qb_v 1))))) qa_nil))))
theorem ok_lrank (T : Tx t) : FnOk P w K mg base CX0 1 t.a_lrank t.d_lrank ["_law_masks_here"] (spD K 1 g_lrank) := by
 refine fn_D (N := ["_law_masks_here", "_law_rows", "_law_mask_here", "_law_row"]) (W := [1, 2, 3, 2, 3, 2]) T.F_lrank sc_lrank (by decide) fun cdv A outer s H E hr => ?_
 have hu := hr.units
 exact (qss_cons (qs_set 1 sc_lrank.nd (qe_lst qa_nil))
   (qss_cons (qs_forI (by rfl) (qi_lst (qe_cp 0)) (qg_name 2 sc_lrank.nd) (qss_cons (qs_sel (ownL 1) (qs_forB 1 3 sc_lrank.nd (qss_one (qs_set 2 sc_lrank.nd (qe_s (qb_fn (id := "min") (c_min2 (by rfl)) (by rfl) T.b_min (by decide +kernel) (qba_cons (qb_v 2) (qba_cons (qb_op o_xor (qb_v 2) (qb_v 3)) qba_nil)))))) PassesOwn.never) (qs_forI (by rfl) (qi_lst (qe_cp 1)) (qg_name 3 sc_lrank.nd) (qss_one (qs_set 2 sc_lrank.nd (qe_s (qb_fn (id := "min") (c_min2 (by rfl)) (by rfl) T.b_min (by decide +kernel) (qba_cons (qb_v 2) (qba_cons (qb_op o_xor (qb_v 2) (qb_v 3)) qba_nil)))))) PassesOwn.never))
   (qss_one (qs_if (qt_cmp o_gt (qe_s (qb_v 2)) (qe_s qb_int) (nomark _)) (qss_one (qs_expr (qe_appP (qp_v 1) (qb_v 2)))) qss_nil))) PassesOwn.never)
   (qss_one (qs_ret (qe_s (qb_fn (id := "len") c_len (by rfl) T.b_len (by decide +kernel) (qba_cons (qb_v 1) qba_nil)))))))
theorem ok_lcopy (T : Tx t) : FnOk P w K mg base CX0 1 t.a_lcopy t.d_lcopy ["_law_heap_here"] (spD K 1 g_lcopy) := by
 refine fn_D (N := ["_law_heap_here"]) (W := []) T.F_lcopy sc_lcopy (by decide) fun cdv A outer s H E hr => ?_
 have hu := hr.units
 exact (qss_one (qs_ret (qe_tup (qa_cons (qe_s (qb_ix (hs := plainC) (qb_v 0) qb_int)) (qa_cons (lc_e ["_law_heap_here", "_law_row"] (qi_lst (qe_ix (qe_cp 0) (qe_s qb_int))) (fun _ _ _ _ _ => by exact (qg_name 1 (show List.Nodup (["_law_heap_here", "_law_row"] : List Str) by decide +kernel))) (fun _ _ _ _ _ => by exact qif_nil) (fun _ _ _ _ _ => by exact (lc_e ["_law_heap_here", "_law_row", "_law_view"] (qi_lst (qe_cp 1)) (fun _ _ _ _ _ => by exact (qg_name 2 (show List.Nodup (["_law_heap_here", "_law_row", "_law_view"] : List Str) by decide +kernel))) (fun _ _ _ _ _ => by exact qif_nil) (fun _ _ _ _ _ => by exact (qe_listB (by rfl) T.b_list (by decide +kernel) (qb_v 2)))))) qa_nil)))))
theorem ok_lbeside (T : Tx t) : FnOk P w K mg base CX0 1 t.a_lbeside t.d_lbeside ["_law_one", "_law_other"] (spD K 2 g_lbeside) := by
 refine fn_D (N := ["_law_one", "_law_other", "_law_views", "_law_name", "_law_row"]) (W := [2, 3, 4]) T.F_lbeside sc_lbeside (by decide) fun cdv A outer s H E hr => ?_
 have hu := hr.units
 exact (qss_cons (qs_set 2 sc_lbeside.nd (qe_lst qa_nil))
   (qss_cons (qs_forI (by rfl) (qi_r1 (by rfl) T.b_range (qa_cons (qe_s (qb_fn (id := "len") c_len (by rfl) T.b_len (by decide +kernel) (qba_cons (qb_ix (hs := plainC) (qb_v 0) qb_int) qba_nil))) qa_nil)) (qg_name 3 sc_lbeside.nd) (qss_cons (lc_s 4 ["_law_one", "_law_other", "_law_views", "_law_name", "_law_row", "_law_view"] sc_lbeside.nd (qi_lst (qe_ix (qe_ix (qe_cp 0) (qe_s qb_int)) (qe_s (qb_v 3)))) (fun _ _ _ _ _ => by exact (qg_name 5 (show List.Nodup (["_law_one", "_law_other", "_law_views", "_law_name", "_law_row", "_law_view"] : List Str) by decide +kernel))) (fun _ _ _ _ _ => by exact qif_nil) (fun _ _ _ _ _ => by exact (qe_listB (by rfl) T.b_list (by decide +kernel) (qb_v 5))))
   (qss_one (qs_expr (qe_appV 2 (qe_catF (qe_cp 4) (lc_e ["_law_one", "_law_other", "_law_views", "_law_name", "_law_row", "_law_view"] (qi_lst (qe_ix (qe_ix (qe_cp 1) (qe_s qb_int)) (qe_s (qb_v 3)))) (fun _ _ _ _ _ => by exact (qg_name 5 (show List.Nodup (["_law_one", "_law_other", "_law_views", "_law_name", "_law_row", "_law_view"] : List Str) by decide +kernel))) (fun _ _ _ _ _ => by exact qif_nil) (fun _ _ _ _ _ => by exact (lc_e ["_law_one", "_law_other", "_law_views", "_law_name", "_law_row", "_law_view", "_law_coin"] (qi_lst (qe_cp 5)) (fun _ _ _ _ _ => by exact (qg_name 6 (show List.Nodup (["_law_one", "_law_other", "_law_views", "_law_name", "_law_row", "_law_view", "_law_coin"] : List Str) by decide +kernel))) (fun _ _ _ _ _ => by exact qif_nil) (fun _ _ _ _ _ => by exact (qe_s (qb_op o_add (qb_v 6) (qb_ix (hs := plainC) (qb_v 0) qb_int)))))))))))) PassesOwn.never)
   (qss_one (qs_ret (qe_tup (qa_cons (qe_s (qb_op o_add (qb_ix (hs := plainC) (qb_v 0) qb_int) (qb_ix (hs := plainC) (qb_v 1) qb_int))) (qa_cons (qe_mv 2) qa_nil)))))))
theorem ok_lspoil (T : Tx t) : FnOk P w K mg base CX0 1 t.a_lspoil t.d_lspoil ["_law_heap_here"] (spD K 1 g_lspoil) := by
 refine fn_D (N := ["_law_heap_here", "_law_row", "_law_view"]) (W := [1, 2, 2]) T.F_lspoil sc_lspoil (by decide) fun cdv A outer s H E hr => ?_
 have hu := hr.units
 exact (qss_cons (qs_forBP 0 1 (qp_ix (qp_v 0) qb_int) sc_lspoil.nd (qss_cons (qs_sel (ownL 1) (qs_forB 1 2 sc_lspoil.nd (qss_one (qs_expr (qe_appP (qp_v 2) qb_int))) PassesOwn.never) (qs_forI (by rfl) (qi_lst (qe_cp 1)) (qg_name 2 sc_lspoil.nd) (qss_one (qs_expr (qe_appP (qp_v 2) qb_int))) PassesOwn.never))
   (qss_one (qs_expr (qe_appV 1 (qe_lst (qa_cons (qe_s qb_int) qa_nil)))))) PassesOwn.never)
   (qss_one (qs_expr (qe_appL (qp_ix (qp_v 0) qb_int) qba_nil))))
theorem ok_views_of (T : Tx t) : FnOk P w K mg base CX0 2 t.a_views_of t.d_views_of ["heap", "g"] (spD K 2 g_views_of) := by
 have G_names_in := ok_names_in (P := P) (w := w) (base := base) T
 refine fn_D (N := ["heap", "g", "found", "name"]) (W := [2, 3]) T.F_views_of sc_views_of (by decide) fun cdv A outer s H E hr => ?_
 have hu := hr.units
 exact (qss_cons (qs_set 2 sc_views_of.nd (qe_lst qa_nil))
   (qss_cons (qs_forI (by rfl) (qi_lst (qe_call G_names_in (hr.mono (by decide)) (by rfl) T.m_names_in T.F_names_in.kp T.n_names_in (qm_ex (qe_s (qb_fn (id := "len") c_len (by rfl) T.b_len (by decide +kernel) (qba_cons (qb_ix (hs := plainC) (qb_v 0) qb_int) qba_nil))) (qm_bo 1 qm_nil)))) (qg_name 3 sc_views_of.nd) (qss_one (qs_expr (qe_extF 2 (qe_ix (qe_ix (qe_cp 0) (qe_s qb_int)) (qe_s (qb_v 3)))))) PassesOwn.never)
   (qss_one (qs_ret (qe_mv 2)))))
theorem ok_lines_of (T : Tx t) : FnOk P w K mg base CX0 2 t.a_lines_of t.d_lines_of ["views"] (spD K 1 g_lines_of) := by
 have G_less_lines := ok_less_lines (P := P) (w := w) (base := base) T
 have G_mask_of := ok_mask_of (P := P) (w := w) (base := base) T
 have G_with_line := ok_with_line (P := P) (w := w) (base := base) T
 refine fn_D (N := ["views", "lines", "place", "view", "left"]) (W := [1, 2, 3, 4, 1]) T.F_lines_of sc_lines_of (by decide) fun cdv A outer s H E hr => ?_
 have hu := hr.units
 exact (qss_cons (qs_set 1 sc_lines_of.nd (qe_lst qa_nil))
   (qss_cons (qs_forI (by rfl) (qi_enum (by rfl) T.b_enumerate (qe_cp 0)) (qg_tup (by rfl) (qgs_cons (qg_name 2 sc_lines_of.nd) (qgs_cons (qg_name 3 sc_lines_of.nd) qgs_nil))) (qss_cons (qs_set 4 sc_lines_of.nd (qe_call G_less_lines (hr.mono (by decide)) (by rfl) T.m_less_lines T.F_less_lines.kp T.n_less_lines (qm_bo 1 (qm_ex (qe_call G_mask_of (hr.mono (by decide)) (by rfl) T.m_mask_of T.F_mask_of.kp T.n_mask_of (qm_bo 3 qm_nil)) (qm_ex (qe_s (qb_op o_shl qb_int (qb_v 2))) qm_nil)))))
   (qss_one (qs_if (qt_cmp (o_ne hu) (qe_s (qb_ix (hs := plainC) (qb_v 4) qb_int)) (qe_s qb_int) (nomark _)) (qss_one (qs_set 1 sc_lines_of.nd (qe_call G_with_line (hr.mono (by decide)) (by rfl) T.m_with_line T.F_with_line.kp T.n_with_line (qm_bo 1 (qm_ex (qe_s (qb_ix (hs := plainC) (qb_v 4) qb_int)) (qm_ex (qe_s (qb_ix (hs := plainC) (qb_v 4) qb_int)) qm_nil)))))) qss_nil))) PassesOwn.never)
   (qss_one (qs_ret (qe_mv 1)))))
theorem ok_beside (T : Tx t) : FnOk P w K mg base CX0 2 t.a_beside t.d_beside ["one", "other"] (spD K 2 g_beside) := by
 have G_moved_views := ok_moved_views (P := P) (w := w) (base := base) T
 refine fn_D (N := ["one", "other", "views"]) (W := [2]) T.F_beside sc_beside (by decide) fun cdv A outer s H E hr => ?_
 have hu := hr.units
 exact (qss_cons (lc_s 2 ["one", "other", "views", "ahead", "behind"] sc_beside.nd (qi_zip (by rfl) T.b_zip (qe_ix (qe_cp 0) (qe_s qb_int)) (qe_ix (qe_cp 1) (qe_s qb_int))) (fun _ _ _ _ _ => by exact (qg_tup (by rfl) (qgs_cons (qg_name 3 (show List.Nodup (["one", "other", "views", "ahead", "behind"] : List Str) by decide +kernel)) (qgs_cons (qg_name 4 (show List.Nodup (["one", "other", "views", "ahead", "behind"] : List Str) by decide +kernel)) qgs_nil)))) (fun _ _ _ _ _ => by exact qif_nil) (fun _ _ _ _ _ => by exact (qe_cat (qe_call G_moved_views (hr.mono (by decide)) (by rfl) T.m_moved_views T.F_moved_views.kp T.n_moved_views (qm_bo 3 (qm_ex (qe_s qb_int) qm_nil))) (qe_call G_moved_views (hr.mono (by decide)) (by rfl) T.m_moved_views T.F_moved_views.kp T.n_moved_views (qm_bo 4 (qm_ex (qe_s (qb_ix (hs := plainC) (qb_v 0) qb_int)) qm_nil))))))
   (qss_one (qs_ret (qe_tup (qa_cons (qe_s (qb_op o_add (qb_ix (hs := plainC) (qb_v 0) qb_int) (qb_ix (hs := plainC) (qb_v 1) qb_int))) (qa_cons (qe_mv 2) qa_nil))))))
theorem ok_lheap (T : Tx t) : FnOk P w K mg base CX0 2 t.a_lheap t.d_lheap ["_law_cell", "_law_n", "_law_most"] (spD K 3 g_lheap) := by
 have G_lbits := ok_lbits (P := P) (w := w) (base := base) T
 have G_ldraws := ok_ldraws (P := P) (w := w) (base := base) T
 refine fn_D (N := ["_law_cell", "_law_n", "_law_most", "_law_digits", "_law_many", "_law_views", "_law_name", "_law_row", "_law_j", "_law_digit", "_law_mask_here"]) (W := [3, 4, 5, 6, 7, 8, 9, 10]) T.F_lheap sc_lheap (by decide) fun cdv A outer s H E hr => ?_
 have hu := hr.units
 exact (qss_cons (qs_set 3 sc_lheap.nd (qe_call G_ldraws (hr.mono (by decide)) (by rfl) T.m_ldraws T.F_ldraws.kp T.n_ldraws (qm_bo 0 (qm_ex (qe_s qb_int) (qm_ex (qe_s qb_int) qm_nil)))))
   (qss_cons (qs_set 4 sc_lheap.nd (qe_s (qb_op o_mod (qb_ix (hs := plainC) (qb_v 3) qb_int) (qb_op o_add (qb_v 2) qb_int))))
   (qss_cons (qs_set 5 sc_lheap.nd (qe_lst qa_nil))
   (qss_cons (qs_forI (by rfl) (qi_r1 (by rfl) T.b_range (qa_cons (qe_s (qb_v 1)) qa_nil)) (qg_name 6 sc_lheap.nd) (qss_cons (qs_set 7 sc_lheap.nd (qe_lst qa_nil))
   (qss_cons (qs_forI (by rfl) (qi_r1 (by rfl) T.b_range (qa_cons (qe_s (qb_op o_mod (qb_ix (qb_v 3) (qb_op o_add qb_int (qb_v 6))) qb_int)) qa_nil)) (qg_name 8 sc_lheap.nd) (qss_cons (qs_set 9 sc_lheap.nd (qe_s (qb_ix (qb_v 3) (qb_op o_add (qb_op o_add qb_int (qb_op o_mul qb_int (qb_v 6))) (qb_v 8)))))
   (qss_cons (qs_set 10 sc_lheap.nd (qe_s (qb_op o_mod (qb_v 9) (qb_op o_shl qb_int (qb_v 4)))))
   (qss_cons (qs_if (qt_cmp o_gt (qe_s (qb_v 4)) (qe_s qb_int) (nomark _)) qss_never qss_nil)
   (qss_one (qs_expr (qe_appV 7 (qe_call G_lbits (hr.mono (by decide)) (by rfl) T.m_lbits T.F_lbits.kp T.n_lbits (qm_bo 10 qm_nil)))))))) PassesOwn.never)
   (qss_one (qs_expr (qe_appV 5 (qe_mv 7)))))) PassesOwn.never)
   (qss_one (qs_ret (qe_tup (qa_cons (qe_s (qb_v 4)) (qa_cons (qe_mv 5) qa_nil)))))))))
theorem ok_lmasks (T : Tx t) : FnOk P w K mg base CX0 2 t.a_lmasks t.d_lmasks ["_law_heap_here", "_law_g"] (spD K 2 g_lmasks) := by
 have G_lmask := ok_lmask (P := P) (w := w) (base := base) T
 refine fn_D (N := ["_law_heap_here", "_law_g", "_law_found", "_law_name"]) (W := [2, 3, 2]) T.F_lmasks sc_lmasks (by decide) fun cdv A outer s H E hr => ?_
 have hu := hr.units
 exact (qss_cons (qs_set 2 sc_lmasks.nd (qe_lst qa_nil))
   (qss_cons (qs_forI (by rfl) (qi_r1 (by rfl) T.b_range (qa_cons (qe_s (qb_fn (id := "len") c_len (by rfl) T.b_len (by decide +kernel) (qba_cons (qb_ix (hs := plainC) (qb_v 0) qb_int) qba_nil))) qa_nil)) (qg_name 3 sc_lmasks.nd) (qss_one (qs_if (qt_cmp (o_eq hu) (qe_s (qb_op o_mod (qb_op o_fdv (qb_v 1) (qb_op o_shl qb_int (qb_v 3))) qb_int)) (qe_s qb_int) (nomark _)) (qss_one (qs_set 2 sc_lmasks.nd (qe_cat (qe_mv 2) (lc_e ["_law_heap_here", "_law_g", "_law_found", "_law_name", "_law_view"] (qi_lst (qe_ix (qe_ix (qe_cp 0) (qe_s qb_int)) (qe_s (qb_v 3)))) (fun _ _ _ _ _ => by exact (qg_name 4 (show List.Nodup (["_law_heap_here", "_law_g", "_law_found", "_law_name", "_law_view"] : List Str) by decide +kernel))) (fun _ _ _ _ _ => by exact qif_nil) (fun _ _ _ _ _ => by exact (qe_call G_lmask (hr.mono (by decide)) (by rfl) T.m_lmask T.F_lmask.kp T.n_lmask (qm_bo 4 qm_nil))))))) qss_nil)) PassesOwn.never)
   (qss_one (qs_ret (qe_mv 2)))))
theorem ok_rank_of (T : Tx t) : FnOk P w K mg base CX0 3 t.a_rank_of t.d_rank_of ["views"] (spD K 1 g_rank_of) := by
 have G_lines_of := ok_lines_of (P := P) (w := w) (base := base) T
 refine fn_D (N := ["views"]) (W := []) T.F_rank_of sc_rank_of (by decide) fun cdv A outer s H E hr => ?_
 have hu := hr.units
 exact (qss_one (qs_ret (qe_fn (id := "len") c_len (by rfl) T.b_len (by decide +kernel) (qa_cons (qe_call G_lines_of (hr.mono (by decide)) (by rfl) T.m_lines_of T.F_lines_of.kp T.n_lines_of (qm_bo 0 qm_nil)) qa_nil))))
theorem ok_taken (T : Tx t) : FnOk P w K mg base CX0 3 t.a_taken t.d_taken ["heap", "times"] (spD K 2 g_taken) := by
 have G_beside := ok_beside (P := P) (w := w) (base := base) T
 refine fn_D (N := ["heap", "times", "found", "step"]) (W := [2, 3, 2]) T.F_taken sc_taken (by decide) fun cdv A outer s H E hr => ?_
 have hu := hr.units
 exact (qss_cons (qs_set 2 sc_taken.nd (qe_tup (qa_cons (qe_s qb_int) (qa_cons (lc_e ["heap", "times", "found", "step", "name"] (qi_lst (qe_ix (qe_cp 0) (qe_s qb_int))) (fun _ _ _ _ _ => by exact (qg_name 4 (show List.Nodup (["heap", "times", "found", "step", "name"] : List Str) by decide +kernel))) (fun _ _ _ _ _ => by exact qif_nil) (fun _ _ _ _ _ => by exact (qe_lst qa_nil))) qa_nil))))
   (qss_cons (qs_forI (by rfl) (qi_r1 (by rfl) T.b_range (qa_cons (qe_s (qb_v 1)) qa_nil)) (qg_name 3 sc_taken.nd) (qss_one (qs_set 2 sc_taken.nd (qe_call G_beside (hr.mono (by decide)) (by rfl) T.m_beside T.F_beside.kp T.n_beside (qm_bo 2 (qm_bo 0 qm_nil))))) PassesOwn.never)
   (qss_one (qs_ret (qe_mv 2)))))
theorem ok_ltable (T : Tx t) : FnOk P w K mg base CX0 3 t.a_ltable t.d_ltable ["_law_heap_here"] (spD K 1 g_ltable) := by
 have G_lmasks := ok_lmasks (P := P) (w := w) (base := base) T
 have G_lrank := ok_lrank (P := P) (w := w) (base := base) T
 refine fn_D (N := ["_law_heap_here"]) (W := []) T.F_ltable sc_ltable (by decide) fun cdv A outer s H E hr => ?_
 have hu := hr.units
 exact (qss_one (qs_ret (lc_e ["_law_heap_here", "_law_g"] (qi_r2 (by rfl) T.b_range (qa_cons (qe_s qb_int) (qa_cons (qe_s (qb_op o_shl qb_int (qb_fn (id := "len") c_len (by rfl) T.b_len (by decide +kernel) (qba_cons (qb_ix (hs := plainC) (qb_v 0) qb_int) qba_nil)))) qa_nil))) (fun _ _ _ _ _ => by exact (qg_name 1 (show List.Nodup (["_law_heap_here", "_law_g"] : List Str) by decide +kernel))) (fun _ _ _ _ _ => by exact qif_nil) (fun _ _ _ _ _ => by exact (qe_call G_lrank (hr.mono (by decide)) (by rfl) T.m_lrank T.F_lrank.kp T.n_lrank (qm_ex (qe_call G_lmasks (hr.mono (by decide)) (by rfl) T.m_lmasks T.F_lmasks.kp T.n_lmasks (qm_bo 0 (qm_bo 1 qm_nil))) qm_nil))))))
theorem ok_coin_table (T : Tx t) : FnOk P w K mg base CX0 4 t.a_coin_table t.d_coin_table ["heap"] (spD K 1 g_coin_table) := by
 have G_all_names := ok_all_names (P := P) (w := w) (base := base) T
 have G_rank_of := ok_rank_of (P := P) (w := w) (base := base) T
 have G_views_of := ok_views_of (P := P) (w := w) (base := base) T
 refine fn_D (N := ["heap"]) (W := []) T.F_coin_table sc_coin_table (by decide) fun cdv A outer s H E hr => ?_
 have hu := hr.units
 exact (qss_one (qs_ret (lc_e ["heap", "group"] (qi_r2 (by rfl) T.b_range (qa_cons (qe_s qb_int) (qa_cons (qe_op o_add (qe_call G_all_names (hr.mono (by decide)) (by rfl) T.m_all_names T.F_all_names.kp T.n_all_names (qm_ex (qe_s (qb_fn (id := "len") c_len (by rfl) T.b_len (by decide +kernel) (qba_cons (qb_ix (hs := plainC) (qb_v 0) qb_int) qba_nil))) qm_nil)) (qe_s qb_int)) qa_nil))) (fun _ _ _ _ _ => by exact (qg_name 1 (show List.Nodup (["heap", "group"] : List Str) by decide +kernel))) (fun _ _ _ _ _ => by exact qif_nil) (fun _ _ _ _ _ => by exact (qe_call G_rank_of (hr.mono (by decide)) (by rfl) T.m_rank_of T.F_rank_of.kp T.n_rank_of (qm_ex (qe_call G_views_of (hr.mono (by decide)) (by rfl) T.m_views_of T.F_views_of.kp T.n_views_of (qm_bo 0 (qm_bo 1 qm_nil))) qm_nil))))))
theorem ok_law (T : Tx t) {f : Addr} {fd : FuncData} (F : Fun K "law" "law" s_law f fd) : FnOk P w K mg base CX0 5 f fd ["_law_script"] (spD K 1 g_law) := by
 have G_lbeside := ok_lbeside (P := P) (w := w) (base := base) T
 have G_lcell_at := ok_lcell_at (P := P) (w := w) (base := base) T
 have G_lcopy := ok_lcopy (P := P) (w := w) (base := base) T
 have G_lheap := ok_lheap (P := P) (w := w) (base := base) T
 have G_lspoil := ok_lspoil (P := P) (w := w) (base := base) T
 have G_ltable := ok_ltable (P := P) (w := w) (base := base) T
 have G_beside := ok_beside (P := P) (w := w) (base := base) T
 have G_coin_table := ok_coin_table (P := P) (w := w) (base := base) T
 have G_taken := ok_taken (P := P) (w := w) (base := base) T
 refine fn_D (N := ["_law_script", "_law_k", "_law_cell", "_law_n", "_law_one", "_law_other", "_law_kept", "_law_due", "_law_many", "_law_whole_here", "_law_time", "_law_told"]) (W := [1, 2, 3, 4, 5, 6, 7, 8, 9, 10, 9, 10, 11, 11]) F sc_law (by decide) fun cdv A outer s H E hr => ?_
 have hu := hr.units
 exact (qss_cons (qs_forI (by rfl) (qi_two (by rfl) T.b_range (qa_cons (qe_s qb_int) (qa_cons (qe_s (qb_fn (id := "max") (c_max2 (by rfl)) (by rfl) T.b_max (by decide +kernel) (qba_cons qb_int (qba_cons (qb_fn (id := "min") (c_min2 (by rfl)) (by rfl) T.b_min (by decide +kernel) (qba_cons qb_int (qba_cons (qb_op o_sub (qb_fn (id := "len") c_len (by rfl) T.b_len (by decide +kernel) (qba_cons (qb_v 0) qba_nil)) qb_int) qba_nil))) qba_nil)))) (qa_cons (qe_s qb_int) qa_nil)))) (qg_name 1 sc_law.nd) (qss_cons (qs_set 2 sc_law.nd (qe_call G_lcell_at (hr.mono (by decide)) (by rfl) T.m_lcell_at T.F_lcell_at.kp T.n_lcell_at (qm_bo 0 (qm_bo 1 qm_nil))))
   (qss_cons (qs_set 3 sc_law.nd (qe_s (qb_op o_add qb_int (qb_op o_mod (qb_v 2) qb_int))))
   (qss_cons (qs_set 4 sc_law.nd (qe_call G_lheap (hr.mono (by decide)) (by rfl) T.m_lheap T.F_lheap.kp T.n_lheap (qm_ex (qe_s (qb_op o_fdv (qb_v 2) qb_int)) (qm_bo 3 (qm_ex (qe_s qb_int) qm_nil)))))
   (qss_cons (qs_set 5 sc_law.nd (qe_call G_lheap (hr.mono (by decide)) (by rfl) T.m_lheap T.F_lheap.kp T.n_lheap (qm_ex (qe_call G_lcell_at (hr.mono (by decide)) (by rfl) T.m_lcell_at T.F_lcell_at.kp T.n_lcell_at (qm_bo 0 (qm_ex (qe_s (qb_op o_add (qb_v 1) qb_int)) qm_nil))) (qm_bo 3 (qm_ex (qe_s qb_int) qm_nil)))))
   (qss_cons (qs_set 6 sc_law.nd (qe_lst (qa_cons (qe_call G_lcopy (hr.mono (by decide)) (by rfl) T.m_lcopy T.F_lcopy.kp T.n_lcopy (qm_bo 4 qm_nil)) (qa_cons (qe_call G_lcopy (hr.mono (by decide)) (by rfl) T.m_lcopy T.F_lcopy.kp T.n_lcopy (qm_bo 5 qm_nil)) qa_nil))))
   (qss_cons (qs_set 7 sc_law.nd (qe_call G_lbeside (hr.mono (by decide)) (by rfl) T.m_lbeside T.F_lbeside.kp T.n_lbeside (qm_ex (qe_ix (qe_cp 6) (qe_s qb_int)) (qm_ex (qe_ix (qe_cp 6) (qe_s qb_int)) qm_nil))))
   (qss_cons (qs_set 8 sc_law.nd (qe_s (qb_op o_mod (qb_op o_fdv (qb_v 2) qb_int) qb_int)))
   (qss_cons (qs_set 9 sc_law.nd (qe_tup (qa_cons (qe_s qb_int) (qa_cons (lc_e ["_law_script", "_law_k", "_law_cell", "_law_n", "_law_one", "_law_other", "_law_kept", "_law_due", "_law_many", "_law_whole_here", "_law_time", "_law_told", "_law_name"] (qi_r1 (by rfl) T.b_range (qa_cons (qe_s (qb_v 3)) qa_nil)) (fun _ _ _ _ _ => by exact (qg_name 12 (show List.Nodup (["_law_script", "_law_k", "_law_cell", "_law_n", "_law_one", "_law_other", "_law_kept", "_law_due", "_law_many", "_law_whole_here", "_law_time", "_law_told", "_law_name"] : List Str) by decide +kernel))) (fun _ _ _ _ _ => by exact qif_nil) (fun _ _ _ _ _ => by exact (qe_lst qa_nil))) qa_nil))))
   (qss_cons (qs_forI (by rfl) (qi_r1 (by rfl) T.b_range (qa_cons (qe_s (qb_v 8)) qa_nil)) (qg_name 10 sc_law.nd) (qss_one (qs_set 9 sc_law.nd (qe_call G_lbeside (hr.mono (by decide)) (by rfl) T.m_lbeside T.F_lbeside.kp T.n_lbeside (qm_bo 9 (qm_ex (qe_ix (qe_cp 6) (qe_s qb_int)) qm_nil))))) PassesOwn.never)
   (qss_cons (qs_forI (by rfl) (qi_r1 (by rfl) T.b_range (qa_cons (qe_s qb_int) qa_nil)) (qg_name 10 sc_law.nd) (qss_cons (qs_set 11 sc_law.nd (qe_call G_beside (hr.mono (by decide)) (by rfl) T.m_beside T.F_beside.kp T.n_beside (qm_bo 4 (qm_bo 5 qm_nil))))
   (qss_cons (qs_if (qw_t (qw_or (qt_not (qt_e (qe_s (qb_fn (id := "isinstance") c_isi (by rfl) T.b_isinstance (by decide +kernel) (qba_cons (qb_v 11) (qba_cons (qb_tyname (T := "tuple") (by rfl) T.b_tuple (by decide +kernel)) qba_nil)))))) (qw_or (qt_not (qt_e (qe_s (qb_fn (id := "isinstance") c_isi (by rfl) T.b_isinstance (by decide +kernel) (qba_cons (qb_ix (hs := plainC) (qb_v 11) qb_int) (qba_cons (qb_tyname (T := "list") (by rfl) T.b_list (by decide +kernel)) qba_nil)))))) (qw_or (qt_cmpB (o_ne hu) (qb_v 11) (qb_v 7) (nomark _)) (qw_or1 (qt_cmpB (o_ne hu) (qb_lst (qba_cons (qb_v 4) (qba_cons (qb_v 5) qba_nil))) (qb_v 6) (nomark _))))))) qss_never qss_nil)
   (qss_cons (qs_if (qt_cmp (o_ne hu) (qe_hide 9 (qe_hide 7 (qe_hide 6 (qe_hide 5 (qe_hide 4 (qe_hide 0 (qe_thaw 11 (qe_call G_coin_table (hr.mono (by decide)) (by rfl) T.m_coin_table T.F_coin_table.kp T.n_coin_table (qm_bo 11 qm_nil))))))))) (lc_e ["_law_script", "_law_k", "_law_cell", "_law_n", "_law_one", "_law_other", "_law_kept", "_law_due", "_law_many", "_law_whole_here", "_law_time", "_law_told", "_law_x", "_law_y"] (qi_zip (by rfl) T.b_zip (qe_call G_ltable (hr.mono (by decide)) (by rfl) T.m_ltable T.F_ltable.kp T.n_ltable (qm_ex (qe_ix (qe_cp 6) (qe_s qb_int)) qm_nil)) (qe_call G_ltable (hr.mono (by decide)) (by rfl) T.m_ltable T.F_ltable.kp T.n_ltable (qm_ex (qe_ix (qe_cp 6) (qe_s qb_int)) qm_nil))) (fun _ _ _ _ _ => by exact (qg_tup (by rfl) (qgs_cons (qg_name 12 (show List.Nodup (["_law_script", "_law_k", "_law_cell", "_law_n", "_law_one", "_law_other", "_law_kept", "_law_due", "_law_many", "_law_whole_here", "_law_time", "_law_told", "_law_x", "_law_y"] : List Str) by decide +kernel)) (qgs_cons (qg_name 13 (show List.Nodup (["_law_script", "_law_k", "_law_cell", "_law_n", "_law_one", "_law_other", "_law_kept", "_law_due", "_law_many", "_law_whole_here", "_law_time", "_law_told", "_law_x", "_law_y"] : List Str) by decide +kernel)) qgs_nil)))) (fun _ _ _ _ _ => by exact qif_nil) (fun _ _ _ _ _ => by exact (qe_s (qb_op o_add (qb_v 12) (qb_v 13))))) (nomark _)) qss_never qss_nil)
   (qss_cons (qs_expr (qe_call G_lspoil (hr.mono (by decide)) (by rfl) T.m_lspoil T.F_lspoil.kp T.n_lspoil (qm_bo 11 qm_nil)))
   (qss_cons (qs_set 11 sc_law.nd (qe_call G_taken (hr.mono (by decide)) (by rfl) T.m_taken T.F_taken.kp T.n_taken (qm_bo 4 (qm_bo 8 qm_nil))))
   (qss_cons (qs_if (qw_t (qw_or (qt_not (qt_e (qe_s (qb_fn (id := "isinstance") c_isi (by rfl) T.b_isinstance (by decide +kernel) (qba_cons (qb_v 11) (qba_cons (qb_tyname (T := "tuple") (by rfl) T.b_tuple (by decide +kernel)) qba_nil)))))) (qw_or (qt_cmpB (o_ne hu) (qb_v 11) (qb_v 9) (nomark _)) (qw_or1 (qt_cmpB (o_ne hu) (qb_v 4) (qb_ix (hs := plainC) (qb_v 6) qb_int) (nomark _)))))) qss_never qss_nil)
   (qss_one (qs_expr (qe_call G_lspoil (hr.mono (by decide)) (by rfl) T.m_lspoil T.F_lspoil.kp T.n_lspoil (qm_bo 11 qm_nil)))))))))) PassesOwn.never)
   (qss_one (qs_if (qw_t (qw_or (qt_cmp (o_ne hu) (qe_call G_beside (hr.mono (by decide)) (by rfl) T.m_beside T.F_beside.kp T.n_beside (qm_ex (qe_cp 4) (qm_ex (qe_cp 4) qm_nil))) (qe_call G_lbeside (hr.mono (by decide)) (by rfl) T.m_lbeside T.F_lbeside.kp T.n_lbeside (qm_ex (qe_ix (qe_cp 6) (qe_s qb_int)) (qm_ex (qe_ix (qe_cp 6) (qe_s qb_int)) qm_nil))) (nomark _)) (qw_or1 (qt_cmpB (o_ne hu) (qb_lst (qba_cons (qb_v 4) (qba_cons (qb_v 5) qba_nil))) (qb_v 6) (nomark _))))) qss_never qss_nil)))))))))))) PassesOwn.never)
   (qss_one (qs_ret (qe_s qb_bl))))
end
theorem all_mk {l : PySem.W.OpenLaw} {w : World} {K : PySem.W.Frag} {h : Heap} {mg : Str → Option Value} {fa : Addr} (X : K.In h) (G : h.Ns mainGlobals mg) (hfa : mg "law" = some (.ref fa))
  {f0 : Addr} {od0 an0 : Option Addr} {sl0 : Array (Option Value)} {oc0 kV0 dc0 pm0 cd0 ct0 : Value}
  {f1 : Addr} {od1 an1 : Option Addr} {sl1 : Array (Option Value)} {oc1 kV1 dc1 pm1 cd1 ct1 : Value}
  {f2 : Addr} {od2 an2 : Option Addr} {sl2 : Array (Option Value)} {oc2 kV2 dc2 pm2 cd2 ct2 : Value}
  {f3 : Addr} {od3 an3 : Option Addr} {sl3 : Array (Option Value)} {oc3 kV3 dc3 pm3 cd3 ct3 : Value}
  {f4 : Addr} {od4 an4 : Option Addr} {sl4 : Array (Option Value)} {oc4 kV4 dc4 pm4 cd4 ct4 : Value}
  {f5 : Addr} {od5 an5 : Option Addr} {sl5 : Array (Option Value)} {oc5 kV5 dc5 pm5 cd5 ct5 : Value}
  {f6 : Addr} {od6 an6 : Option Addr} {sl6 : Array (Option Value)} {oc6 kV6 dc6 pm6 cd6 ct6 : Value}
  {f7 : Addr} {od7 an7 : Option Addr} {sl7 : Array (Option Value)} {oc7 kV7 dc7 pm7 cd7 ct7 : Value}
  {f8 : Addr} {od8 an8 : Option Addr} {sl8 : Array (Option Value)} {oc8 kV8 dc8 pm8 cd8 ct8 : Value}
  {f9 : Addr} {od9 an9 : Option Addr} {sl9 : Array (Option Value)} {oc9 kV9 dc9 pm9 cd9 ct9 : Value}
  {f10 : Addr} {od10 an10 : Option Addr} {sl10 : Array (Option Value)} {oc10 kV10 dc10 pm10 cd10 ct10 : Value}
  {f11 : Addr} {od11 an11 : Option Addr} {sl11 : Array (Option Value)} {oc11 kV11 dc11 pm11 cd11 ct11 : Value}
  {f12 : Addr} {od12 an12 : Option Addr} {sl12 : Array (Option Value)} {oc12 kV12 dc12 pm12 cd12 ct12 : Value}
  {f13 : Addr} {od13 an13 : Option Addr} {sl13 : Array (Option Value)} {oc13 kV13 dc13 pm13 cd13 ct13 : Value}
  {f14 : Addr} {od14 an14 : Option Addr} {sl14 : Array (Option Value)} {oc14 kV14 dc14 pm14 cd14 ct14 : Value}
  {f15 : Addr} {od15 an15 : Option Addr} {sl15 : Array (Option Value)} {oc15 kV15 dc15 pm15 cd15 ct15 : Value}
  {f16 : Addr} {od16 an16 : Option Addr} {sl16 : Array (Option Value)} {oc16 kV16 dc16 pm16 cd16 ct16 : Value}
  {f17 : Addr} {od17 an17 : Option Addr} {sl17 : Array (Option Value)} {oc17 kV17 dc17 pm17 cd17 ct17 : Value}
  {f18 : Addr} {od18 an18 : Option Addr} {sl18 : Array (Option Value)} {oc18 kV18 dc18 pm18 cd18 ct18 : Value}
  {f19 : Addr} {od19 an19 : Option Addr} {sl19 : Array (Option Value)} {oc19 kV19 dc19 pm19 cd19 ct19 : Value}
  {f20 : Addr} {od20 an20 : Option Addr} {sl20 : Array (Option Value)} {oc20 kV20 dc20 pm20 cd20 ct20 : Value}
  {f21 : Addr} {od21 an21 : Option Addr} {sl21 : Array (Option Value)} {oc21 kV21 dc21 pm21 cd21 ct21 : Value}
  {f22 : Addr} {od22 an22 : Option Addr} {sl22 : Array (Option Value)} {oc22 kV22 dc22 pm22 cd22 ct22 : Value}
  {f23 : Addr} {od23 an23 : Option Addr} {sl23 : Array (Option Value)} {oc23 kV23 dc23 pm23 cd23 ct23 : Value}
  (a0 : PySem.W.nsIn K mainGlobals "all_names" = some (some (.ref f0))) (l0 : K.lookup f0 = some ⟨oc0, od0, .func (PySem.W.fnOf "all_names" "all_names" (defArgs s_all_names) (defBody s_all_names) (defScope s_all_names) .none kV0 dc0 pm0 an0 cd0 ct0), sl0⟩) (c0 : PySem.W.codeIn K cd0 "all_names" = true) (k0 : PySem.W.keepIn K (.ref f0) = true)
  (a1 : PySem.W.nsIn K mainGlobals "names_in" = some (some (.ref f1))) (l1 : K.lookup f1 = some ⟨oc1, od1, .func (PySem.W.fnOf "names_in" "names_in" (defArgs s_names_in) (defBody s_names_in) (defScope s_names_in) .none kV1 dc1 pm1 an1 cd1 ct1), sl1⟩) (c1 : PySem.W.codeIn K cd1 "names_in" = true) (k1 : PySem.W.keepIn K (.ref f1) = true)
  (a2 : PySem.W.nsIn K mainGlobals "mask_of" = some (some (.ref f2))) (l2 : K.lookup f2 = some ⟨oc2, od2, .func (PySem.W.fnOf "mask_of" "mask_of" (defArgs s_mask_of) (defBody s_mask_of) (defScope s_mask_of) .none kV2 dc2 pm2 an2 cd2 ct2), sl2⟩) (c2 : PySem.W.codeIn K cd2 "mask_of" = true) (k2 : PySem.W.keepIn K (.ref f2) = true)
  (a3 : PySem.W.nsIn K mainGlobals "less_lines" = some (some (.ref f3))) (l3 : K.lookup f3 = some ⟨oc3, od3, .func (PySem.W.fnOf "less_lines" "less_lines" (defArgs s_less_lines) (defBody s_less_lines) (defScope s_less_lines) .none kV3 dc3 pm3 an3 cd3 ct3), sl3⟩) (c3 : PySem.W.codeIn K cd3 "less_lines" = true) (k3 : PySem.W.keepIn K (.ref f3) = true)
  (a4 : PySem.W.nsIn K mainGlobals "with_line" = some (some (.ref f4))) (l4 : K.lookup f4 = some ⟨oc4, od4, .func (PySem.W.fnOf "with_line" "with_line" (defArgs s_with_line) (defBody s_with_line) (defScope s_with_line) .none kV4 dc4 pm4 an4 cd4 ct4), sl4⟩) (c4 : PySem.W.codeIn K cd4 "with_line" = true) (k4 : PySem.W.keepIn K (.ref f4) = true)
  (a5 : PySem.W.nsIn K mainGlobals "moved_views" = some (some (.ref f5))) (l5 : K.lookup f5 = some ⟨oc5, od5, .func (PySem.W.fnOf "moved_views" "moved_views" (defArgs s_moved_views) (defBody s_moved_views) (defScope s_moved_views) .none kV5 dc5 pm5 an5 cd5 ct5), sl5⟩) (c5 : PySem.W.codeIn K cd5 "moved_views" = true) (k5 : PySem.W.keepIn K (.ref f5) = true)
  (a6 : PySem.W.nsIn K mainGlobals "_law_cell_at" = some (some (.ref f6))) (l6 : K.lookup f6 = some ⟨oc6, od6, .func (PySem.W.fnOf "_law_cell_at" "_law_cell_at" (defArgs s_lcell_at) (defBody s_lcell_at) (defScope s_lcell_at) .none kV6 dc6 pm6 an6 cd6 ct6), sl6⟩) (c6 : PySem.W.codeIn K cd6 "_law_cell_at" = true) (k6 : PySem.W.keepIn K (.ref f6) = true)
  (a7 : PySem.W.nsIn K mainGlobals "_law_draws" = some (some (.ref f7))) (l7 : K.lookup f7 = some ⟨oc7, od7, .func (PySem.W.fnOf "_law_draws" "_law_draws" (defArgs s_ldraws) (defBody s_ldraws) (defScope s_ldraws) .none kV7 dc7 pm7 an7 cd7 ct7), sl7⟩) (c7 : PySem.W.codeIn K cd7 "_law_draws" = true) (k7 : PySem.W.keepIn K (.ref f7) = true)
  (a8 : PySem.W.nsIn K mainGlobals "_law_bits" = some (some (.ref f8))) (l8 : K.lookup f8 = some ⟨oc8, od8, .func (PySem.W.fnOf "_law_bits" "_law_bits" (defArgs s_lbits) (defBody s_lbits) (defScope s_lbits) .none kV8 dc8 pm8 an8 cd8 ct8), sl8⟩) (c8 : PySem.W.codeIn K cd8 "_law_bits" = true) (k8 : PySem.W.keepIn K (.ref f8) = true)
  (a9 : PySem.W.nsIn K mainGlobals "_law_mask" = some (some (.ref f9))) (l9 : K.lookup f9 = some ⟨oc9, od9, .func (PySem.W.fnOf "_law_mask" "_law_mask" (defArgs s_lmask) (defBody s_lmask) (defScope s_lmask) .none kV9 dc9 pm9 an9 cd9 ct9), sl9⟩) (c9 : PySem.W.codeIn K cd9 "_law_mask" = true) (k9 : PySem.W.keepIn K (.ref f9) = true)
  (a10 : PySem.W.nsIn K mainGlobals "_law_rank" = some (some (.ref f10))) (l10 : K.lookup f10 = some ⟨oc10, od10, .func (PySem.W.fnOf "_law_rank" "_law_rank" (defArgs s_lrank) (defBody s_lrank) (defScope s_lrank) .none kV10 dc10 pm10 an10 cd10 ct10), sl10⟩) (c10 : PySem.W.codeIn K cd10 "_law_rank" = true) (k10 : PySem.W.keepIn K (.ref f10) = true)
  (a11 : PySem.W.nsIn K mainGlobals "_law_copy" = some (some (.ref f11))) (l11 : K.lookup f11 = some ⟨oc11, od11, .func (PySem.W.fnOf "_law_copy" "_law_copy" (defArgs s_lcopy) (defBody s_lcopy) (defScope s_lcopy) .none kV11 dc11 pm11 an11 cd11 ct11), sl11⟩) (c11 : PySem.W.codeIn K cd11 "_law_copy" = true) (k11 : PySem.W.keepIn K (.ref f11) = true)
  (a12 : PySem.W.nsIn K mainGlobals "_law_beside" = some (some (.ref f12))) (l12 : K.lookup f12 = some ⟨oc12, od12, .func (PySem.W.fnOf "_law_beside" "_law_beside" (defArgs s_lbeside) (defBody s_lbeside) (defScope s_lbeside) .none kV12 dc12 pm12 an12 cd12 ct12), sl12⟩) (c12 : PySem.W.codeIn K cd12 "_law_beside" = true) (k12 : PySem.W.keepIn K (.ref f12) = true)
  (a13 : PySem.W.nsIn K mainGlobals "_law_spoil" = some (some (.ref f13))) (l13 : K.lookup f13 = some ⟨oc13, od13, .func (PySem.W.fnOf "_law_spoil" "_law_spoil" (defArgs s_lspoil) (defBody s_lspoil) (defScope s_lspoil) .none kV13 dc13 pm13 an13 cd13 ct13), sl13⟩) (c13 : PySem.W.codeIn K cd13 "_law_spoil" = true) (k13 : PySem.W.keepIn K (.ref f13) = true)
  (a14 : PySem.W.nsIn K mainGlobals "views_of" = some (some (.ref f14))) (l14 : K.lookup f14 = some ⟨oc14, od14, .func (PySem.W.fnOf "views_of" "views_of" (defArgs s_views_of) (defBody s_views_of) (defScope s_views_of) .none kV14 dc14 pm14 an14 cd14 ct14), sl14⟩) (c14 : PySem.W.codeIn K cd14 "views_of" = true) (k14 : PySem.W.keepIn K (.ref f14) = true)
  (a15 : PySem.W.nsIn K mainGlobals "lines_of" = some (some (.ref f15))) (l15 : K.lookup f15 = some ⟨oc15, od15, .func (PySem.W.fnOf "lines_of" "lines_of" (defArgs s_lines_of) (defBody s_lines_of) (defScope s_lines_of) .none kV15 dc15 pm15 an15 cd15 ct15), sl15⟩) (c15 : PySem.W.codeIn K cd15 "lines_of" = true) (k15 : PySem.W.keepIn K (.ref f15) = true)
  (a16 : PySem.W.nsIn K mainGlobals "beside" = some (some (.ref f16))) (l16 : K.lookup f16 = some ⟨oc16, od16, .func (PySem.W.fnOf "beside" "beside" (defArgs s_beside) (defBody s_beside) (defScope s_beside) .none kV16 dc16 pm16 an16 cd16 ct16), sl16⟩) (c16 : PySem.W.codeIn K cd16 "beside" = true) (k16 : PySem.W.keepIn K (.ref f16) = true)
  (a17 : PySem.W.nsIn K mainGlobals "_law_heap" = some (some (.ref f17))) (l17 : K.lookup f17 = some ⟨oc17, od17, .func (PySem.W.fnOf "_law_heap" "_law_heap" (defArgs s_lheap) (defBody s_lheap) (defScope s_lheap) .none kV17 dc17 pm17 an17 cd17 ct17), sl17⟩) (c17 : PySem.W.codeIn K cd17 "_law_heap" = true) (k17 : PySem.W.keepIn K (.ref f17) = true)
  (a18 : PySem.W.nsIn K mainGlobals "_law_masks" = some (some (.ref f18))) (l18 : K.lookup f18 = some ⟨oc18, od18, .func (PySem.W.fnOf "_law_masks" "_law_masks" (defArgs s_lmasks) (defBody s_lmasks) (defScope s_lmasks) .none kV18 dc18 pm18 an18 cd18 ct18), sl18⟩) (c18 : PySem.W.codeIn K cd18 "_law_masks" = true) (k18 : PySem.W.keepIn K (.ref f18) = true)
  (a19 : PySem.W.nsIn K mainGlobals "rank_of" = some (some (.ref f19))) (l19 : K.lookup f19 = some ⟨oc19, od19, .func (PySem.W.fnOf "rank_of" "rank_of" (defArgs s_rank_of) (defBody s_rank_of) (defScope s_rank_of) .none kV19 dc19 pm19 an19 cd19 ct19), sl19⟩) (c19 : PySem.W.codeIn K cd19 "rank_of" = true) (k19 : PySem.W.keepIn K (.ref f19) = true)
  (a20 : PySem.W.nsIn K mainGlobals "taken" = some (some (.ref f20))) (l20 : K.lookup f20 = some ⟨oc20, od20, .func (PySem.W.fnOf "taken" "taken" (defArgs s_taken) (defBody s_taken) (defScope s_taken) .none kV20 dc20 pm20 an20 cd20 ct20), sl20⟩) (c20 : PySem.W.codeIn K cd20 "taken" = true) (k20 : PySem.W.keepIn K (.ref f20) = true)
  (a21 : PySem.W.nsIn K mainGlobals "_law_table" = some (some (.ref f21))) (l21 : K.lookup f21 = some ⟨oc21, od21, .func (PySem.W.fnOf "_law_table" "_law_table" (defArgs s_ltable) (defBody s_ltable) (defScope s_ltable) .none kV21 dc21 pm21 an21 cd21 ct21), sl21⟩) (c21 : PySem.W.codeIn K cd21 "_law_table" = true) (k21 : PySem.W.keepIn K (.ref f21) = true)
  (a22 : PySem.W.nsIn K mainGlobals "coin_table" = some (some (.ref f22))) (l22 : K.lookup f22 = some ⟨oc22, od22, .func (PySem.W.fnOf "coin_table" "coin_table" (defArgs s_coin_table) (defBody s_coin_table) (defScope s_coin_table) .none kV22 dc22 pm22 an22 cd22 ct22), sl22⟩) (c22 : PySem.W.codeIn K cd22 "coin_table" = true) (k22 : PySem.W.keepIn K (.ref f22) = true)
  (a23 : PySem.W.nsIn K mainGlobals "law" = some (some (.ref f23))) (l23 : K.lookup f23 = some ⟨oc23, od23, .func (PySem.W.fnOf "law" "law" (defArgs s_law) (defBody s_law) (defScope s_law) .none kV23 dc23 pm23 an23 cd23 ct23), sl23⟩) (c23 : PySem.W.codeIn K cd23 "law" = true) (k23 : PySem.W.keepIn K (.ref f23) = true)
  (z_abs : PySem.W.nsIn K mainGlobals "abs" = some none)
  (z_enumerate : PySem.W.nsIn K mainGlobals "enumerate" = some none)
  (z_isinstance : PySem.W.nsIn K mainGlobals "isinstance" = some none)
  (z_len : PySem.W.nsIn K mainGlobals "len" = some none)
  (z_list : PySem.W.nsIn K mainGlobals "list" = some none)
  (z_max : PySem.W.nsIn K mainGlobals "max" = some none)
  (z_min : PySem.W.nsIn K mainGlobals "min" = some none)
  (z_range : PySem.W.nsIn K mainGlobals "range" = some none)
  (z_sum : PySem.W.nsIn K mainGlobals "sum" = some none)
  (z_tuple : PySem.W.nsIn K mainGlobals "tuple" = some none)
  (z_zip : PySem.W.nsIn K mainGlobals "zip" = some none)
  : ∃ fd : FuncData, (∀ (s : Shared) (v : Value), BindsTo s fd ⟨[v], []⟩ [("_law_script", v)]) ∧ ∀ base : Heap, K.In base → base.Ns mainGlobals mg → FnOk l.prog w K mg base CX0 5 fa fd ["_law_script"] (spD K 1 g_law) := by
 have e := hfa.symm.trans (PySem.W.mg_of X G a23)
 cases e
 have F0 := fun_mk (st := s_all_names) l0 c0 k0
 have b0 := F0.binds (ps := ["n"]) fun _ _ _ _ _ _ us hl => by rcases us with _ | ⟨_, _ | ⟨_, us⟩⟩ <;> first | rfl | (simp at hl) | cases hl
 have F1 := fun_mk (st := s_names_in) l1 c1 k1
 have b1 := F1.binds (ps := ["n", "group"]) fun _ _ _ _ _ _ us hl => by rcases us with _ | ⟨_, _ | ⟨_, _ | ⟨_, us⟩⟩⟩ <;> first | rfl | (simp at hl) | cases hl
 have F2 := fun_mk (st := s_mask_of) l2 c2 k2
 have b2 := F2.binds (ps := ["view"]) fun _ _ _ _ _ _ us hl => by rcases us with _ | ⟨_, _ | ⟨_, us⟩⟩ <;> first | rfl | (simp at hl) | cases hl
 have F3 := fun_mk (st := s_less_lines) l3 c3 k3
 have b3 := F3.binds (ps := ["lines", "mask", "made"]) fun _ _ _ _ _ _ us hl => by rcases us with _ | ⟨_, _ | ⟨_, _ | ⟨_, _ | ⟨_, us⟩⟩⟩⟩ <;> first | rfl | (simp at hl) | cases hl
 have F4 := fun_mk (st := s_with_line) l4 c4 k4
 have b4 := F4.binds (ps := ["lines", "mask", "made"]) fun _ _ _ _ _ _ us hl => by rcases us with _ | ⟨_, _ | ⟨_, _ | ⟨_, _ | ⟨_, us⟩⟩⟩⟩ <;> first | rfl | (simp at hl) | cases hl
 have F5 := fun_mk (st := s_moved_views) l5 c5 k5
 have b5 := F5.binds (ps := ["views", "many"]) fun _ _ _ _ _ _ us hl => by rcases us with _ | ⟨_, _ | ⟨_, _ | ⟨_, us⟩⟩⟩ <;> first | rfl | (simp at hl) | cases hl
 have F6 := fun_mk (st := s_lcell_at) l6 c6 k6
 have b6 := F6.binds (ps := ["_law_script", "_law_k"]) fun _ _ _ _ _ _ us hl => by rcases us with _ | ⟨_, _ | ⟨_, _ | ⟨_, us⟩⟩⟩ <;> first | rfl | (simp at hl) | cases hl
 have F7 := fun_mk (st := s_ldraws) l7 c7 k7
 have b7 := F7.binds (ps := ["_law_cell", "_law_many", "_law_base"]) fun _ _ _ _ _ _ us hl => by rcases us with _ | ⟨_, _ | ⟨_, _ | ⟨_, _ | ⟨_, us⟩⟩⟩⟩ <;> first | rfl | (simp at hl) | cases hl
 have F8 := fun_mk (st := s_lbits) l8 c8 k8
 have b8 := F8.binds (ps := ["_law_mask_here"]) fun _ _ _ _ _ _ us hl => by rcases us with _ | ⟨_, _ | ⟨_, us⟩⟩ <;> first | rfl | (simp at hl) | cases hl
 have F9 := fun_mk (st := s_lmask) l9 c9 k9
 have b9 := F9.binds (ps := ["_law_view"]) fun _ _ _ _ _ _ us hl => by rcases us with _ | ⟨_, _ | ⟨_, us⟩⟩ <;> first | rfl | (simp at hl) | cases hl
 have F10 := fun_mk (st := s_lrank) l10 c10 k10
 have b10 := F10.binds (ps := ["_law_masks_here"]) fun _ _ _ _ _ _ us hl => by rcases us with _ | ⟨_, _ | ⟨_, us⟩⟩ <;> first | rfl | (simp at hl) | cases hl
 have F11 := fun_mk (st := s_lcopy) l11 c11 k11
 have b11 := F11.binds (ps := ["_law_heap_here"]) fun _ _ _ _ _ _ us hl => by rcases us with _ | ⟨_, _ | ⟨_, us⟩⟩ <;> first | rfl | (simp at hl) | cases hl
 have F12 := fun_mk (st := s_lbeside) l12 c12 k12
 have b12 := F12.binds (ps := ["_law_one", "_law_other"]) fun _ _ _ _ _ _ us hl => by rcases us with _ | ⟨_, _ | ⟨_, _ | ⟨_, us⟩⟩⟩ <;> first | rfl | (simp at hl) | cases hl
 have F13 := fun_mk (st := s_lspoil) l13 c13 k13
 have b13 := F13.binds (ps := ["_law_heap_here"]) fun _ _ _ _ _ _ us hl => by rcases us with _ | ⟨_, _ | ⟨_, us⟩⟩ <;> first | rfl | (simp at hl) | cases hl
 have F14 := fun_mk (st := s_views_of) l14 c14 k14
 have b14 := F14.binds (ps := ["heap", "g"]) fun _ _ _ _ _ _ us hl => by rcases us with _ | ⟨_, _ | ⟨_, _ | ⟨_, us⟩⟩⟩ <;> first | rfl | (simp at hl) | cases hl
 have F15 := fun_mk (st := s_lines_of) l15 c15 k15
 have b15 := F15.binds (ps := ["views"]) fun _ _ _ _ _ _ us hl => by rcases us with _ | ⟨_, _ | ⟨_, us⟩⟩ <;> first | rfl | (simp at hl) | cases hl
 have F16 := fun_mk (st := s_beside) l16 c16 k16
 have b16 := F16.binds (ps := ["one", "other"]) fun _ _ _ _ _ _ us hl => by rcases us with _ | ⟨_, _ | ⟨_, _ | ⟨_, us⟩⟩⟩ <;> first | rfl | (simp at hl) | cases hl
 have F17 := fun_mk (st := s_lheap) l17 c17 k17
 have b17 := F17.binds (ps := ["_law_cell", "_law_n", "_law_most"]) fun _ _ _ _ _ _ us hl => by rcases us with _ | ⟨_, _ | ⟨_, _ | ⟨_, _ | ⟨_, us⟩⟩⟩⟩ <;> first | rfl | (simp at hl) | cases hl
 have F18 := fun_mk (st := s_lmasks) l18 c18 k18
 have b18 := F18.binds (ps := ["_law_heap_here", "_law_g"]) fun _ _ _ _ _ _ us hl => by rcases us with _ | ⟨_, _ | ⟨_, _ | ⟨_, us⟩⟩⟩ <;> first | rfl | (simp at hl) | cases hl
 have F19 := fun_mk (st := s_rank_of) l19 c19 k19
 have b19 := F19.binds (ps := ["views"]) fun _ _ _ _ _ _ us hl => by rcases us with _ | ⟨_, _ | ⟨_, us⟩⟩ <;> first | rfl | (simp at hl) | cases hl
 have F20 := fun_mk (st := s_taken) l20 c20 k20
 have b20 := F20.binds (ps := ["heap", "times"]) fun _ _ _ _ _ _ us hl => by rcases us with _ | ⟨_, _ | ⟨_, _ | ⟨_, us⟩⟩⟩ <;> first | rfl | (simp at hl) | cases hl
 have F21 := fun_mk (st := s_ltable) l21 c21 k21
 have b21 := F21.binds (ps := ["_law_heap_here"]) fun _ _ _ _ _ _ us hl => by rcases us with _ | ⟨_, _ | ⟨_, us⟩⟩ <;> first | rfl | (simp at hl) | cases hl
 have F22 := fun_mk (st := s_coin_table) l22 c22 k22
 have b22 := F22.binds (ps := ["heap"]) fun _ _ _ _ _ _ us hl => by rcases us with _ | ⟨_, _ | ⟨_, us⟩⟩ <;> first | rfl | (simp at hl) | cases hl
 have F23 := fun_mk (st := s_law) l23 c23 k23
 let t : Txt K mg := ⟨f0, PySem.W.fnOf "all_names" "all_names" (defArgs s_all_names) (defBody s_all_names) (defScope s_all_names) .none kV0 dc0 pm0 an0 cd0 ct0, f1, PySem.W.fnOf "names_in" "names_in" (defArgs s_names_in) (defBody s_names_in) (defScope s_names_in) .none kV1 dc1 pm1 an1 cd1 ct1, f2, PySem.W.fnOf "mask_of" "mask_of" (defArgs s_mask_of) (defBody s_mask_of) (defScope s_mask_of) .none kV2 dc2 pm2 an2 cd2 ct2, f3, PySem.W.fnOf "less_lines" "less_lines" (defArgs s_less_lines) (defBody s_less_lines) (defScope s_less_lines) .none kV3 dc3 pm3 an3 cd3 ct3, f4, PySem.W.fnOf "with_line" "with_line" (defArgs s_with_line) (defBody s_with_line) (defScope s_with_line) .none kV4 dc4 pm4 an4 cd4 ct4, f5, PySem.W.fnOf "moved_views" "moved_views" (defArgs s_moved_views) (defBody s_moved_views) (defScope s_moved_views) .none kV5 dc5 pm5 an5 cd5 ct5, f6, PySem.W.fnOf "_law_cell_at" "_law_cell_at" (defArgs s_lcell_at) (defBody s_lcell_at) (defScope s_lcell_at) .none kV6 dc6 pm6 an6 cd6 ct6, f7, PySem.W.fnOf "_law_draws" "_law_draws" (defArgs s_ldraws) (defBody s_ldraws) (defScope s_ldraws) .none kV7 dc7 pm7 an7 cd7 ct7, f8, PySem.W.fnOf "_law_bits" "_law_bits" (defArgs s_lbits) (defBody s_lbits) (defScope s_lbits) .none kV8 dc8 pm8 an8 cd8 ct8, f9, PySem.W.fnOf "_law_mask" "_law_mask" (defArgs s_lmask) (defBody s_lmask) (defScope s_lmask) .none kV9 dc9 pm9 an9 cd9 ct9, f10, PySem.W.fnOf "_law_rank" "_law_rank" (defArgs s_lrank) (defBody s_lrank) (defScope s_lrank) .none kV10 dc10 pm10 an10 cd10 ct10, f11, PySem.W.fnOf "_law_copy" "_law_copy" (defArgs s_lcopy) (defBody s_lcopy) (defScope s_lcopy) .none kV11 dc11 pm11 an11 cd11 ct11, f12, PySem.W.fnOf "_law_beside" "_law_beside" (defArgs s_lbeside) (defBody s_lbeside) (defScope s_lbeside) .none kV12 dc12 pm12 an12 cd12 ct12, f13, PySem.W.fnOf "_law_spoil" "_law_spoil" (defArgs s_lspoil) (defBody s_lspoil) (defScope s_lspoil) .none kV13 dc13 pm13 an13 cd13 ct13, f14, PySem.W.fnOf "views_of" "views_of" (defArgs s_views_of) (defBody s_views_of) (defScope s_views_of) .none kV14 dc14 pm14 an14 cd14 ct14, f15, PySem.W.fnOf "lines_of" "lines_of" (defArgs s_lines_of) (defBody s_lines_of) (defScope s_lines_of) .none kV15 dc15 pm15 an15 cd15 ct15, f16, PySem.W.fnOf "beside" "beside" (defArgs s_beside) (defBody s_beside) (defScope s_beside) .none kV16 dc16 pm16 an16 cd16 ct16, f17, PySem.W.fnOf "_law_heap" "_law_heap" (defArgs s_lheap) (defBody s_lheap) (defScope s_lheap) .none kV17 dc17 pm17 an17 cd17 ct17, f18, PySem.W.fnOf "_law_masks" "_law_masks" (defArgs s_lmasks) (defBody s_lmasks) (defScope s_lmasks) .none kV18 dc18 pm18 an18 cd18 ct18, f19, PySem.W.fnOf "rank_of" "rank_of" (defArgs s_rank_of) (defBody s_rank_of) (defScope s_rank_of) .none kV19 dc19 pm19 an19 cd19 ct19, f20, PySem.W.fnOf "taken" "taken" (defArgs s_taken) (defBody s_taken) (defScope s_taken) .none kV20 dc20 pm20 an20 cd20 ct20, f21, PySem.W.fnOf "_law_table" "_law_table" (defArgs s_ltable) (defBody s_ltable) (defScope s_ltable) .none kV21 dc21 pm21 an21 cd21 ct21, f22, PySem.W.fnOf "coin_table" "coin_table" (defArgs s_coin_table) (defBody s_coin_table) (defScope s_coin_table) .none kV22 dc22 pm22 an22 cd22 ct22⟩
 have T : Tx t := ⟨F0, PySem.W.mg_of X G a0, b0, F1, PySem.W.mg_of X G a1, b1, F2, PySem.W.mg_of X G a2, b2, F3, PySem.W.mg_of X G a3, b3, F4, PySem.W.mg_of X G a4, b4, F5, PySem.W.mg_of X G a5, b5, F6, PySem.W.mg_of X G a6, b6, F7, PySem.W.mg_of X G a7, b7, F8, PySem.W.mg_of X G a8, b8, F9, PySem.W.mg_of X G a9, b9, F10, PySem.W.mg_of X G a10, b10, F11, PySem.W.mg_of X G a11, b11, F12, PySem.W.mg_of X G a12, b12, F13, PySem.W.mg_of X G a13, b13, F14, PySem.W.mg_of X G a14, b14, F15, PySem.W.mg_of X G a15, b15, F16, PySem.W.mg_of X G a16, b16, F17, PySem.W.mg_of X G a17, b17, F18, PySem.W.mg_of X G a18, b18, F19, PySem.W.mg_of X G a19, b19, F20, PySem.W.mg_of X G a20, b20, F21, PySem.W.mg_of X G a21, b21, F22, PySem.W.mg_of X G a22, b22, PySem.W.mg_none_of X G z_abs, PySem.W.mg_none_of X G z_enumerate, PySem.W.mg_none_of X G z_isinstance, PySem.W.mg_none_of X G z_len, PySem.W.mg_none_of X G z_list, PySem.W.mg_none_of X G z_max, PySem.W.mg_none_of X G z_min, PySem.W.mg_none_of X G z_range, PySem.W.mg_none_of X G z_sum, PySem.W.mg_none_of X G z_tuple, PySem.W.mg_none_of X G z_zip⟩
 exact ⟨PySem.W.fnOf "law" "law" (defArgs s_law) (defBody s_law) (defScope s_law) .none kV23 dc23 pm23 an23 cd23 ct23, fun s v => .of_eq rfl, fun base _ _ => ok_law T F23⟩
theorem walk {l : PySem.W.OpenLaw} {q : Program} {loose : List Str} {XP : (Str → Option Value) → Heap → Prop} {YP : World → Heap → Prop} {d : DefRec} {K : Params → PySem.W.Frag} (hn : l.most = some 63) (hdf : d.params.defaults = [])
  (hY : ∀ (w : World) (h : Heap), YP w h → (K w.params).In h) (hg : ∀ ns : List Int, ns.length ≤ 63 → ∃ d, g_law [.lst false (ns.map D.int)] = some (.bl true, [d]))
  (F : ∀ (w : World) (mg : Str → Option Value) (fa : Addr) (h : Heap), (K w.params).In h → h.Ns mainGlobals mg → mg d.name = some (.ref fa) →
   ∃ fd : FuncData, (∀ (s : Shared) (u : Value), BindsTo s fd ⟨[u], []⟩ [("_law_script", u)]) ∧ ∀ base : Heap, (K w.params).In base → base.Ns mainGlobals mg → FnOk l.prog w (K w.params) mg base CX0 5 fa fd ["_law_script"] (spD (K w.params) 1 g_law)) :
  PySem.W.WalkO q loose XP YP l.row.toRowW d [] (fun f vs => PySem.call f vs) :=
 L2.walk_of (n := 63) (k := 5) (x := "_law_script") (CX := fun _ => CX0) (sp := fun w => spD (K w.params) 1 g_law) hn (by decide) hdf ⟨rfl, by decide, by decide, rfl⟩ hY F (fun _ _ a ns hl _ hS => law_sp (hg ns hl) hS) fun _ _ _ _ _ z => z
end LW
namespace LW
open PySem L2 DD TT
structure S_lcell_at where
 yscript : List Int
 yk : Int
noncomputable def T_lcell_at : {f : ((List Int) × Int × Unit) → Option (Int × ((List Int) × Int × Unit)) // JF g_lcell_at f (Pc (rM rI) (Pc rI Pn)) rI (Pc (rM rI) (Pc rI Pn))} := ⟨_, by
 exact jf_rt (S := S_lcell_at) (N := 2) (W := []) (c := c_lcell_at) (Γn := []) (ro := rI) (Γp := [some ⟨S_lcell_at.yscript, (rM rI)⟩, some ⟨S_lcell_at.yk, rI⟩]) (Γr := [some ⟨S_lcell_at.yscript, (rM rI)⟩, some ⟨S_lcell_at.yk, rI⟩]) (init := (fun p => (⟨p.1, p.2.1⟩ : S_lcell_at))) (jin_cons (get := S_lcell_at.yscript) (by decide) (fun _ => rfl) fun _ => (jin_cons (get := S_lcell_at.yk) (by decide) (fun _ => rfl) fun _ => jin_nil))
  (js_seq (js_if (Γ' := [some ⟨S_lcell_at.yscript, (rM rI)⟩, some ⟨S_lcell_at.yk, rI⟩]) (jt_e (je_op jo_B0 (je_s (jp_v 1 rfl)) (je_s (jp_b1 jb_len (jp_v 0 rfl))))) (js_ret (je_s (jp_op jo_ix (jp_v 0 rfl) (jp_v 1 rfl))) inferInstance (by first | exact Le.refl | (repeat (first | exact Le.nil | refine Le.som inferInstance ?_ | refine Le.non ?_)))) js_skip)
  (js_ret (je_s (jp_i 0)) inferInstance (by first | exact Le.refl | (repeat (first | exact Le.nil | refine Le.som inferInstance ?_ | refine Le.non ?_))))) (jout_keep (by decide) rfl (jout_keep (by decide) rfl jout_nil))⟩
noncomputable def t_lcell_at := T_lcell_at.1
theorem j_lcell_at : JF g_lcell_at t_lcell_at (Pc (rM rI) (Pc rI Pn)) rI (Pc (rM rI) (Pc rI Pn)) := T_lcell_at.2
structure S_ldraws where
 ycell : Int
 ymany : Int
 ybase : Int
 yfound : List Int
 yleft : Int
 yk : Int
 ynumber : Int
noncomputable def T_ldraws : {f : (Int × Int × Int × Unit) → Option ((List Int) × (Int × Int × Int × Unit)) // JF g_ldraws f (Pc rI (Pc rI (Pc rI Pn))) (rL rI) (Pc rI (Pc rI (Pc rI Pn)))} := ⟨_, by
 exact jf_rt (S := S_ldraws) (N := 7) (W := [3, 4, 5, 4, 6, 6]) (c := c_ldraws) (Γn := []) (ro := (rL rI)) (Γp := [some ⟨S_ldraws.ycell, rI⟩, some ⟨S_ldraws.ymany, rI⟩, some ⟨S_ldraws.ybase, rI⟩]) (Γr := [some ⟨S_ldraws.ycell, rI⟩, some ⟨S_ldraws.ymany, rI⟩, some ⟨S_ldraws.ybase, rI⟩, none, none, none, none]) (init := (fun p => (⟨p.1, p.2.1, p.2.2.1, [], 0, 0, 0⟩ : S_ldraws))) (jin_cons (get := S_ldraws.ycell) (by decide) (fun _ => rfl) fun _ => (jin_cons (get := S_ldraws.ymany) (by decide) (fun _ => rfl) fun _ => (jin_cons (get := S_ldraws.ybase) (by decide) (fun _ => rfl) fun _ => jin_nil)))
  (js_seq (js_set 3 (get := S_ldraws.yfound) (put := (fun s v => {s with yfound := v})) (je_lst (jl_nil (r := rI))))
  (js_seq (js_set 4 (get := S_ldraws.yleft) (put := (fun s v => {s with yleft := v})) (je_s (jp_v 0 rfl)))
  (js_seq (js_for (ji_r1 (je_s (jp_v 1 rfl))) Le.refl (jg_nm 5 (get := S_ldraws.yk) (put := (fun s v => {s with yk := v}))) (js_if (Γ' := [some ⟨S_ldraws.ycell, rI⟩, some ⟨S_ldraws.ymany, rI⟩, some ⟨S_ldraws.ybase, rI⟩, some ⟨S_ldraws.yfound, (rL rI)⟩, some ⟨S_ldraws.yleft, rI⟩, some ⟨S_ldraws.yk, rI⟩, none]) (jt_and (jt_e (je_op jo_B0 (je_s (jp_b1 jb_abs (jp_v 0 rfl))) (je_s (jp_op jo_I (jp_i 10) (jp_i 18))))) (jt_and (jt_e (je_op jo_ne (je_s (jp_v 4 rfl)) (je_s (jp_i 0)))) (jt_e (je_op jo_ne (je_s (jp_v 4 rfl)) (je_s (jp_neg (jp_i 1))))))) (js_seq (js_drop (je_app 3 (get := S_ldraws.yfound) (put := (fun s v => {s with yfound := v})) (jp_op jo_I (jp_v 4 rfl) (jp_v 2 rfl)) rfl))
  (js_set 4 (get := S_ldraws.yleft) (put := (fun s v => {s with yleft := v})) (je_s (jp_op jo_I (jp_v 4 rfl) (jp_v 2 rfl))))) (js_seq (js_set 6 (get := S_ldraws.ynumber) (put := (fun s v => {s with ynumber := v})) (je_s (jp_op jo_I (jp_op jo_I0 (jp_op jo_mul (jp_op jo_I0 (jp_v 0 rfl) (jp_i 1009)) (jp_i 69621)) (jp_op jo_mul (jp_i 7919) (jp_v 5 rfl))) (jp_i 2147483629))))
  (js_seq (js_set 6 (get := S_ldraws.ynumber) (put := (fun s v => {s with ynumber := v})) (je_s (jp_op jo_I (jp_op jo_I0 (jp_op jo_I0 (jp_op jo_mul (jp_v 6 rfl) (jp_v 6 rfl)) (jp_op jo_mul (jp_i 17) (jp_v 5 rfl))) (jp_i 5)) (jp_i 2147483629))))
  (js_drop (je_app 3 (get := S_ldraws.yfound) (put := (fun s v => {s with yfound := v})) (jp_op jo_I (jp_op jo_I (jp_op jo_I (jp_op jo_mul (jp_v 6 rfl) (jp_v 6 rfl)) (jp_i 2147483587)) (jp_i 64)) (jp_v 2 rfl)) rfl))))))
  (js_ret (je_mv 3 rfl) inferInstance (by first | exact Le.refl | (repeat (first | exact Le.nil | refine Le.som inferInstance ?_ | refine Le.non ?_))))))) (jout_keep (by decide) rfl (jout_keep (by decide) rfl (jout_keep (by decide) rfl jout_nil)))⟩
noncomputable def t_ldraws := T_ldraws.1
theorem j_ldraws : JF g_ldraws t_ldraws (Pc rI (Pc rI (Pc rI Pn))) (rL rI) (Pc rI (Pc rI (Pc rI Pn))) := T_ldraws.2
structure S_lbits where
 ymask_here : Int
noncomputable def T_lbits : {f : (Int × Unit) → Option ((List Int) × (Int × Unit)) // JF g_lbits f (Pc rI Pn) (rL rI) (Pc rI Pn)} := ⟨_, by
 exact jf_rt (S := S_lbits) (N := 1) (W := []) (c := c_lbits) (Γn := []) (ro := (rL rI)) (Γp := [some ⟨S_lbits.ymask_here, rI⟩]) (Γr := [some ⟨S_lbits.ymask_here, rI⟩]) (init := (fun p => (⟨p.1⟩ : S_lbits))) (jin_cons (get := S_lbits.ymask_here) (by decide) (fun _ => rfl) fun _ => jin_nil)
  (js_ret (je_lc (ji_r1 (je_s (jp_i 41))) Le.refl (jgc1 1 rfl) (fun x1 => (jt_e (je_op jo_eq (je_s (jp_op jo_I (jp_op jo_I (jp_v 0 rfl) (jp_op jo_I (jp_i 1) (jp_v 1 rfl))) (jp_i 2))) (je_s (jp_i 1))))) (fun x1 => (je_s (jp_v 1 rfl)))) inferInstance (by first | exact Le.refl | (repeat (first | exact Le.nil | refine Le.som inferInstance ?_ | refine Le.non ?_)))) (jout_keep (by decide) rfl jout_nil)⟩
noncomputable def t_lbits := T_lbits.1
theorem j_lbits : JF g_lbits t_lbits (Pc rI Pn) (rL rI) (Pc rI Pn) := T_lbits.2
structure S_lheap where
 ycell : Int
 yn : Int
 ymost : Int
 ydigits : List Int
 ymany : Int
 yviews : List (List (List Int))
 yname : Int
 yrow : List (List Int)
 yj : Int
 ydigit : Int
 ymask_here : Int
noncomputable def T_lheap : {f : (Int × Int × Int × Unit) → Option ((Int × (List (List (List Int)))) × (Int × Int × Int × Unit)) // JF g_lheap f (Pc rI (Pc rI (Pc rI Pn))) (rT2 rI (rL (rL (rL rI)))) (Pc rI (Pc rI (Pc rI Pn)))} := ⟨_, by
 exact jf_rt (S := S_lheap) (N := 11) (W := [3, 4, 5, 6, 7, 8, 9, 10]) (c := c_lheap) (Γn := []) (ro := (rT2 rI (rL (rL (rL rI))))) (Γp := [some ⟨S_lheap.ycell, rI⟩, some ⟨S_lheap.yn, rI⟩, some ⟨S_lheap.ymost, rI⟩]) (Γr := [some ⟨S_lheap.ycell, rI⟩, some ⟨S_lheap.yn, rI⟩, some ⟨S_lheap.ymost, rI⟩, none, none, none, none, none, none, none, none]) (init := (fun p => (⟨p.1, p.2.1, p.2.2.1, [], 0, [], 0, [], 0, 0, 0⟩ : S_lheap))) (jin_cons (get := S_lheap.ycell) (by decide) (fun _ => rfl) fun _ => (jin_cons (get := S_lheap.yn) (by decide) (fun _ => rfl) fun _ => (jin_cons (get := S_lheap.ymost) (by decide) (fun _ => rfl) fun _ => jin_nil)))
  (js_seq (js_set 3 (get := S_lheap.ydigits) (put := (fun s v => {s with ydigits := v})) (je_call j_ldraws (ja1_bo 0 rfl (ja1_ex (je_s (jp_i 18)) (ja1_ex (je_s (jp_i 65536)) ja1_nil))) (ja2_sc 0 rfl (ja2_ex (ja2_ex ja2_nil))) (ja3_sc 0 (ja3_ex (ja3_ex ja3_nil)))))
  (js_seq (js_set 4 (get := S_lheap.ymany) (put := (fun s v => {s with ymany := v})) (je_s (jp_op jo_I (jp_op jo_ix (jp_v 3 rfl) (jp_i 0)) (jp_op jo_I0 (jp_v 2 rfl) (jp_i 1)))))
  (js_seq (js_set 5 (get := S_lheap.yviews) (put := (fun s v => {s with yviews := v})) (je_lst (jl_nil (r := (rL (rL rI))))))
  (js_seq (js_for (ji_r1 (je_s (jp_v 1 rfl))) Le.refl (jg_nm 6 (get := S_lheap.yname) (put := (fun s v => {s with yname := v}))) (js_seq (js_set 7 (get := S_lheap.yrow) (put := (fun s v => {s with yrow := v})) (je_lst (jl_nil (r := (rL rI)))))
  (js_seq (js_for (ji_r1 (je_s (jp_op jo_I (jp_op jo_ix (jp_v 3 rfl) (jp_op jo_I0 (jp_i 1) (jp_v 6 rfl))) (jp_i 4)))) Le.refl (jg_nm 8 (get := S_lheap.yj) (put := (fun s v => {s with yj := v}))) (js_seq (js_set 9 (get := S_lheap.ydigit) (put := (fun s v => {s with ydigit := v})) (je_s (jp_op jo_ix (jp_v 3 rfl) (jp_op jo_I0 (jp_op jo_I0 (jp_i 5) (jp_op jo_mul (jp_i 3) (jp_v 6 rfl))) (jp_v 8 rfl)))))
  (js_seq (js_set 10 (get := S_lheap.ymask_here) (put := (fun s v => {s with ymask_here := v})) (je_s (jp_op jo_I (jp_v 9 rfl) (jp_op jo_I (jp_i 1) (jp_v 4 rfl)))))
  (js_seq (js_if (Γ' := [some ⟨S_lheap.ycell, rI⟩, some ⟨S_lheap.yn, rI⟩, some ⟨S_lheap.ymost, rI⟩, some ⟨S_lheap.ydigits, (rL rI)⟩, some ⟨S_lheap.ymany, rI⟩, some ⟨S_lheap.yviews, (rL (rL (rL rI)))⟩, some ⟨S_lheap.yname, rI⟩, some ⟨S_lheap.yrow, (rL (rL rI))⟩, some ⟨S_lheap.yj, rI⟩, some ⟨S_lheap.ydigit, rI⟩, some ⟨S_lheap.ymask_here, rI⟩]) (jt_e (je_op jo_B0 (je_s (jp_v 4 rfl)) (je_s (jp_i 16)))) js_dead js_skip)
  (js_drop (je_appV 7 (get := S_lheap.yrow) (put := (fun s v => {s with yrow := v})) (je_call j_lbits (ja1_bo 10 rfl ja1_nil) (ja2_sc 10 rfl ja2_nil) (ja3_sc 10 ja3_nil)) rfl rfl))))))
  (js_drop (je_appV 5 (get := S_lheap.yviews) (put := (fun s v => {s with yviews := v})) (je_mv 7 rfl) rfl rfl)))))
  (js_ret (je_t2 (je_s (jp_v 4 rfl)) (je_mv 5 rfl)) inferInstance (by first | exact Le.refl | (repeat (first | exact Le.nil | refine Le.som inferInstance ?_ | refine Le.non ?_)))))))) (jout_keep (by decide) rfl (jout_keep (by decide) rfl (jout_keep (by decide) rfl jout_nil)))⟩
noncomputable def t_lheap := T_lheap.1
theorem j_lheap : JF g_lheap t_lheap (Pc rI (Pc rI (Pc rI Pn))) (rT2 rI (rL (rL (rL rI)))) (Pc rI (Pc rI (Pc rI Pn))) := T_lheap.2
structure S_lcopy where
 yheap_here : Int × (List (List (List Int)))
noncomputable def T_lcopy : {f : ((Int × (List (List (List Int)))) × Unit) → Option ((Int × (List (List (List Int)))) × ((Int × (List (List (List Int)))) × Unit)) // JF g_lcopy f (Pc (rT2 rI (rL (rL (rL rI)))) Pn) (rT2 rI (rL (rL (rL rI)))) (Pc (rT2 rI (rM (rM (rM rI)))) Pn)} := ⟨_, by
 exact jf_rt (S := S_lcopy) (N := 1) (W := []) (c := c_lcopy) (Γn := []) (ro := (rT2 rI (rL (rL (rL rI))))) (Γp := [some ⟨S_lcopy.yheap_here, (rT2 rI (rL (rL (rL rI))))⟩]) (Γr := [some ⟨S_lcopy.yheap_here, (rT2 rI (rM (rM (rM rI))))⟩]) (init := (fun p => (⟨p.1⟩ : S_lcopy))) (jin_cons (get := S_lcopy.yheap_here) (by decide) (fun _ => rfl) fun _ => jin_nil)
  (js_ret (je_t2 (je_s (jp_tix tix20 (jp_v 0 rfl))) (je_lc (ji_lst (je_tix tix21 (je_cp 0 rfl))) Le.refl (jgc1 1 rfl) (fun x2 => jt_true) (fun x2 => (je_lc (ji_lst (je_cp 1 rfl)) Le.refl (jgc1 2 rfl) (fun x3 => jt_true) (fun x3 => (je_listB (jp_v 2 rfl))))))) inferInstance (by first | exact Le.refl | (repeat (first | exact Le.nil | refine Le.som inferInstance ?_ | refine Le.non ?_)))) (jout_keep (by decide) rfl jout_nil)⟩
noncomputable def t_lcopy := T_lcopy.1
theorem j_lcopy : JF g_lcopy t_lcopy (Pc (rT2 rI (rL (rL (rL rI)))) Pn) (rT2 rI (rL (rL (rL rI)))) (Pc (rT2 rI (rM (rM (rM rI)))) Pn) := T_lcopy.2
structure S_lbeside where
 yone : Int × (List (List (List Int)))
 yother : Int × (List (List (List Int)))
 yviews : List (List (List Int))
 yname : Int
 yrow : List (List Int)
noncomputable def T_lbeside : {f : ((Int × (List (List (List Int)))) × (Int × (List (List (List Int)))) × Unit) → Option ((Int × (List (List (List Int)))) × ((Int × (List (List (List Int)))) × (Int × (List (List (List Int)))) × Unit)) // JF g_lbeside f (Pc (rT2 rI (rM (rM (rM rI)))) (Pc (rT2 rI (rM (rM (rM rI)))) Pn)) (rT2 rI (rL (rL (rM rI)))) (Pc (rT2 rI (rM (rM (rM rI)))) (Pc (rT2 rI (rM (rM (rM rI)))) Pn))} := ⟨_, by
 exact jf_rt (S := S_lbeside) (N := 5) (W := [2, 3, 4]) (c := c_lbeside) (Γn := []) (ro := (rT2 rI (rL (rL (rM rI))))) (Γp := [some ⟨S_lbeside.yone, (rT2 rI (rM (rM (rM rI))))⟩, some ⟨S_lbeside.yother, (rT2 rI (rM (rM (rM rI))))⟩]) (Γr := [some ⟨S_lbeside.yone, (rT2 rI (rM (rM (rM rI))))⟩, some ⟨S_lbeside.yother, (rT2 rI (rM (rM (rM rI))))⟩, none, none, none]) (init := (fun p => (⟨p.1, p.2.1, [], 0, []⟩ : S_lbeside))) (jin_cons (get := S_lbeside.yone) (by decide) (fun _ => rfl) fun _ => (jin_cons (get := S_lbeside.yother) (by decide) (fun _ => rfl) fun _ => jin_nil))
  (js_seq (js_set 2 (get := S_lbeside.yviews) (put := (fun s v => {s with yviews := v})) (je_lst (jl_nil (r := (rL (rM rI))))))
  (js_seq (js_for (ji_r1 (je_s (jp_b1 jb_len (jp_tix tix21 (jp_v 0 rfl))))) Le.refl (jg_nm 3 (get := S_lbeside.yname) (put := (fun s v => {s with yname := v}))) (js_seq (js_set 4 (get := S_lbeside.yrow) (put := (fun s v => {s with yrow := v})) (je_lc (ji_lst (je_ix (je_tix tix21 (je_cp 0 rfl)) (je_s (jp_v 3 rfl)))) Le.refl (jgc1 5 rfl) (fun x4 => jt_true) (fun x4 => (je_listB (jp_v 5 rfl)))))
  (js_drop (je_appV 2 (get := S_lbeside.yviews) (put := (fun s v => {s with yviews := v})) (je_catF (je_cp 4 rfl) (je_lc (ji_lst (je_ix (je_tix tix21 (je_cp 1 rfl)) (je_s (jp_v 3 rfl)))) Le.refl (jgc1 5 rfl) (fun x5 => jt_true) (fun x5 => (je_lc (ji_lst (je_cp 5 rfl)) Le.refl (jgc1 6 rfl) (fun x6 => jt_true) (fun x6 => (je_s (jp_op jo_I0 (jp_v 6 rfl) (jp_tix tix20 (jp_v 0 rfl))))))))) rfl rfl))))
  (js_ret (je_t2 (je_s (jp_op jo_I0 (jp_tix tix20 (jp_v 0 rfl)) (jp_tix tix20 (jp_v 1 rfl)))) (je_mv 2 rfl)) inferInstance (by first | exact Le.refl | (repeat (first | exact Le.nil | refine Le.som inferInstance ?_ | refine Le.non ?_)))))) (jout_keep (by decide) rfl (jout_keep (by decide) rfl jout_nil))⟩
noncomputable def t_lbeside := T_lbeside.1
theorem j_lbeside : JF g_lbeside t_lbeside (Pc (rT2 rI (rM (rM (rM rI)))) (Pc (rT2 rI (rM (rM (rM rI)))) Pn)) (rT2 rI (rL (rL (rM rI)))) (Pc (rT2 rI (rM (rM (rM rI)))) (Pc (rT2 rI (rM (rM (rM rI)))) Pn)) := T_lbeside.2
structure S_moved_views where
 xviews : List (List Int)
 xmany : Int
noncomputable def T_moved_views : {f : ((List (List Int)) × Int × Unit) → Option ((List (List Int)) × ((List (List Int)) × Int × Unit)) // JF g_moved_views f (Pc (rM (rM rI)) (Pc rI Pn)) (rL (rL rI)) (Pc (rM (rM rI)) (Pc rI Pn))} := ⟨_, by
 exact jf_rt (S := S_moved_views) (N := 2) (W := []) (c := c_moved_views) (Γn := []) (ro := (rL (rL rI))) (Γp := [some ⟨S_moved_views.xviews, (rM (rM rI))⟩, some ⟨S_moved_views.xmany, rI⟩]) (Γr := [some ⟨S_moved_views.xviews, (rM (rM rI))⟩, some ⟨S_moved_views.xmany, rI⟩]) (init := (fun p => (⟨p.1, p.2.1⟩ : S_moved_views))) (jin_cons (get := S_moved_views.xviews) (by decide) (fun _ => rfl) fun _ => (jin_cons (get := S_moved_views.xmany) (by decide) (fun _ => rfl) fun _ => jin_nil))
  (js_ret (je_lc (ji_lst (je_cp 0 rfl)) Le.refl (jgc1 2 rfl) (fun x9 => jt_true) (fun x9 => (je_lc (ji_lst (je_cp 2 rfl)) Le.refl (jgc1 3 rfl) (fun x10 => jt_true) (fun x10 => (je_s (jp_op jo_I0 (jp_v 3 rfl) (jp_v 1 rfl))))))) inferInstance (by first | exact Le.refl | (repeat (first | exact Le.nil | refine Le.som inferInstance ?_ | refine Le.non ?_)))) (jout_keep (by decide) rfl (jout_keep (by decide) rfl jout_nil))⟩
noncomputable def t_moved_views := T_moved_views.1
theorem j_moved_views : JF g_moved_views t_moved_views (Pc (rM (rM rI)) (Pc rI Pn)) (rL (rL rI)) (Pc (rM (rM rI)) (Pc rI Pn)) := T_moved_views.2
structure S_beside where
 xone : Int × (List (List (List Int)))
 xother : Int × (List (List (List Int)))
 xviews : List (List (List Int))
noncomputable def T_beside : {f : ((Int × (List (List (List Int)))) × (Int × (List (List (List Int)))) × Unit) → Option ((Int × (List (List (List Int)))) × ((Int × (List (List (List Int)))) × (Int × (List (List (List Int)))) × Unit)) // JF g_beside f (Pc (rT2 rI (rM (rM (rM rI)))) (Pc (rT2 rI (rM (rM (rM rI)))) Pn)) (rT2 rI (rL (rL (rL rI)))) (Pc (rT2 rI (rM (rM (rM rI)))) (Pc (rT2 rI (rM (rM (rM rI)))) Pn))} := ⟨_, by
 exact jf_rt (S := S_beside) (N := 3) (W := [2]) (c := c_beside) (Γn := []) (ro := (rT2 rI (rL (rL (rL rI))))) (Γp := [some ⟨S_beside.xone, (rT2 rI (rM (rM (rM rI))))⟩, some ⟨S_beside.xother, (rT2 rI (rM (rM (rM rI))))⟩]) (Γr := [some ⟨S_beside.xone, (rT2 rI (rM (rM (rM rI))))⟩, some ⟨S_beside.xother, (rT2 rI (rM (rM (rM rI))))⟩, none]) (init := (fun p => (⟨p.1, p.2.1, []⟩ : S_beside))) (jin_cons (get := S_beside.xone) (by decide) (fun _ => rfl) fun _ => (jin_cons (get := S_beside.xother) (by decide) (fun _ => rfl) fun _ => jin_nil))
  (js_seq (js_set 2 (get := S_beside.xviews) (put := (fun s v => {s with xviews := v})) (je_lc (ji_zip (je_tix tix21 (je_cp 0 rfl)) (je_tix tix21 (je_cp 1 rfl))) Le.refl (jgc2 3 4 rfl rfl) (fun x8 => jt_true) (fun x8 => (je_cat (je_call j_moved_views (ja1_bo 3 rfl (ja1_ex (je_s (jp_i 0)) ja1_nil)) (ja2_ns 3 rfl (ja2_ex ja2_nil)) (ja3_any 3 (ja3_ex ja3_nil))) (je_call j_moved_views (ja1_bo 4 rfl (ja1_ex (je_s (jp_tix tix20 (jp_v 0 rfl))) ja1_nil)) (ja2_ns 4 rfl (ja2_ex ja2_nil)) (ja3_any 4 (ja3_ex ja3_nil)))))))
  (js_ret (je_t2 (je_s (jp_op jo_I0 (jp_tix tix20 (jp_v 0 rfl)) (jp_tix tix20 (jp_v 1 rfl)))) (je_mv 2 rfl)) inferInstance (by first | exact Le.refl | (repeat (first | exact Le.nil | refine Le.som inferInstance ?_ | refine Le.non ?_))))) (jout_keep (by decide) rfl (jout_keep (by decide) rfl jout_nil))⟩
noncomputable def t_beside := T_beside.1
theorem j_beside : JF g_beside t_beside (Pc (rT2 rI (rM (rM (rM rI)))) (Pc (rT2 rI (rM (rM (rM rI)))) Pn)) (rT2 rI (rL (rL (rL rI)))) (Pc (rT2 rI (rM (rM (rM rI)))) (Pc (rT2 rI (rM (rM (rM rI)))) Pn)) := T_beside.2
structure S_all_names where
 xn : Int
noncomputable def T_all_names : {f : (Int × Unit) → Option (Int × (Int × Unit)) // JF g_all_names f (Pc rI Pn) rI (Pc rI Pn)} := ⟨_, by
 exact jf_rt (S := S_all_names) (N := 1) (W := []) (c := c_all_names) (Γn := []) (ro := rI) (Γp := [some ⟨S_all_names.xn, rI⟩]) (Γr := [some ⟨S_all_names.xn, rI⟩]) (init := (fun p => (⟨p.1⟩ : S_all_names))) (jin_cons (get := S_all_names.xn) (by decide) (fun _ => rfl) fun _ => jin_nil)
  (js_ret (je_s (jp_op jo_I0 (jp_op jo_I (jp_i 1) (jp_v 0 rfl)) (jp_i 1))) inferInstance (by first | exact Le.refl | (repeat (first | exact Le.nil | refine Le.som inferInstance ?_ | refine Le.non ?_)))) (jout_keep (by decide) rfl jout_nil)⟩
noncomputable def t_all_names := T_all_names.1
theorem j_all_names : JF g_all_names t_all_names (Pc rI Pn) rI (Pc rI Pn) := T_all_names.2
structure S_names_in where
 xn : Int
 xgroup : Int
noncomputable def T_names_in : {f : (Int × Int × Unit) → Option ((List Int) × (Int × Int × Unit)) // JF g_names_in f (Pc rI (Pc rI Pn)) (rL rI) (Pc rI (Pc rI Pn))} := ⟨_, by
 exact jf_rt (S := S_names_in) (N := 2) (W := []) (c := c_names_in) (Γn := []) (ro := (rL rI)) (Γp := [some ⟨S_names_in.xn, rI⟩, some ⟨S_names_in.xgroup, rI⟩]) (Γr := [some ⟨S_names_in.xn, rI⟩, some ⟨S_names_in.xgroup, rI⟩]) (init := (fun p => (⟨p.1, p.2.1⟩ : S_names_in))) (jin_cons (get := S_names_in.xn) (by decide) (fun _ => rfl) fun _ => (jin_cons (get := S_names_in.xgroup) (by decide) (fun _ => rfl) fun _ => jin_nil))
  (js_ret (je_lc (ji_r1 (je_s (jp_v 0 rfl))) Le.refl (jgc1 2 rfl) (fun x12 => (jt_e (je_op jo_ne (je_s (jp_op jo_I0 (jp_v 1 rfl) (jp_op jo_I (jp_i 1) (jp_v 2 rfl)))) (je_s (jp_i 0))))) (fun x12 => (je_s (jp_v 2 rfl)))) inferInstance (by first | exact Le.refl | (repeat (first | exact Le.nil | refine Le.som inferInstance ?_ | refine Le.non ?_)))) (jout_keep (by decide) rfl (jout_keep (by decide) rfl jout_nil))⟩
noncomputable def t_names_in := T_names_in.1
theorem j_names_in : JF g_names_in t_names_in (Pc rI (Pc rI Pn)) (rL rI) (Pc rI (Pc rI Pn)) := T_names_in.2
structure S_views_of where
 xheap : Int × (List (List (List Int)))
 xg : Int
 xfound : List (List Int)
 xname : Int
noncomputable def T_views_of : {f : ((Int × (List (List (List Int)))) × Int × Unit) → Option ((List (List Int)) × ((Int × (List (List (List Int)))) × Int × Unit)) // JF g_views_of f (Pc (rT2 rI (rM (rM (rM rI)))) (Pc rI Pn)) (rL (rM rI)) (Pc (rT2 rI (rM (rM (rM rI)))) (Pc rI Pn))} := ⟨_, by
 exact jf_rt (S := S_views_of) (N := 4) (W := [2, 3]) (c := c_views_of) (Γn := []) (ro := (rL (rM rI))) (Γp := [some ⟨S_views_of.xheap, (rT2 rI (rM (rM (rM rI))))⟩, some ⟨S_views_of.xg, rI⟩]) (Γr := [some ⟨S_views_of.xheap, (rT2 rI (rM (rM (rM rI))))⟩, some ⟨S_views_of.xg, rI⟩, none, none]) (init := (fun p => (⟨p.1, p.2.1, [], 0⟩ : S_views_of))) (jin_cons (get := S_views_of.xheap) (by decide) (fun _ => rfl) fun _ => (jin_cons (get := S_views_of.xg) (by decide) (fun _ => rfl) fun _ => jin_nil))
  (js_seq (js_set 2 (get := S_views_of.xfound) (put := (fun s v => {s with xfound := v})) (je_lst (jl_nil (r := (rM rI)))))
  (js_seq (js_for (ji_lst (je_call j_names_in (ja1_ex (je_s (jp_b1 jb_len (jp_tix tix21 (jp_v 0 rfl)))) (ja1_bo 1 rfl ja1_nil)) (ja2_ex (ja2_sc 1 rfl ja2_nil)) (ja3_ex (ja3_sc 1 ja3_nil)))) Le.refl (jg_nm 3 (get := S_views_of.xname) (put := (fun s v => {s with xname := v}))) (js_drop (je_extF 2 (get := S_views_of.xfound) (put := (fun s v => {s with xfound := v})) (je_ix (je_tix tix21 (je_cp 0 rfl)) (je_s (jp_v 3 rfl))) rfl rfl)))
  (js_ret (je_mv 2 rfl) inferInstance (by first | exact Le.refl | (repeat (first | exact Le.nil | refine Le.som inferInstance ?_ | refine Le.non ?_)))))) (jout_keep (by decide) rfl (jout_keep (by decide) rfl jout_nil))⟩
noncomputable def t_views_of := T_views_of.1
theorem j_views_of : JF g_views_of t_views_of (Pc (rT2 rI (rM (rM (rM rI)))) (Pc rI Pn)) (rL (rM rI)) (Pc (rT2 rI (rM (rM (rM rI)))) (Pc rI Pn)) := T_views_of.2
structure S_mask_of where
 xview : List Int
noncomputable def T_mask_of : {f : ((List Int) × Unit) → Option (Int × ((List Int) × Unit)) // JF g_mask_of f (Pc (rM rI) Pn) rI (Pc (rM rI) Pn)} := ⟨_, by
 exact jf_rt (S := S_mask_of) (N := 1) (W := []) (c := c_mask_of) (Γn := []) (ro := rI) (Γp := [some ⟨S_mask_of.xview, (rM rI)⟩]) (Γr := [some ⟨S_mask_of.xview, (rM rI)⟩]) (init := (fun p => (⟨p.1⟩ : S_mask_of))) (jin_cons (get := S_mask_of.xview) (by decide) (fun _ => rfl) fun _ => jin_nil)
  (js_ret (je_b1 jb_sum (je_lc (ji_lst (je_cp 0 rfl)) Le.refl (jgc1 1 rfl) (fun x13 => jt_true) (fun x13 => (je_s (jp_op jo_I (jp_i 1) (jp_v 1 rfl)))))) inferInstance (by first | exact Le.refl | (repeat (first | exact Le.nil | refine Le.som inferInstance ?_ | refine Le.non ?_)))) (jout_keep (by decide) rfl jout_nil)⟩
noncomputable def t_mask_of := T_mask_of.1
theorem j_mask_of : JF g_mask_of t_mask_of (Pc (rM rI) Pn) rI (Pc (rM rI) Pn) := T_mask_of.2
structure S_less_lines where
 xlines : List (Int × Int × Int)
 xmask : Int
 xmade : Int
 xlead : Int
 xother : Int
 xhow : Int
noncomputable def T_less_lines : {f : ((List (Int × Int × Int)) × Int × Int × Unit) → Option ((Int × Int) × ((List (Int × Int × Int)) × Int × Int × Unit)) // JF g_less_lines f (Pc (rM (rT3 rI rI rI)) (Pc rI (Pc rI Pn))) (rT2 rI rI) (Pc (rM (rT3 rI rI rI)) (Pc rI (Pc rI Pn)))} := ⟨_, by
 exact jf_rt (S := S_less_lines) (N := 6) (W := [3, 4, 5, 1, 2]) (c := c_less_lines) (Γn := []) (ro := (rT2 rI rI)) (Γp := [some ⟨S_less_lines.xlines, (rM (rT3 rI rI rI))⟩, some ⟨S_less_lines.xmask, rI⟩, some ⟨S_less_lines.xmade, rI⟩]) (Γr := [some ⟨S_less_lines.xlines, (rM (rT3 rI rI rI))⟩, none, none, none, none, none]) (init := (fun p => (⟨p.1, p.2.1, p.2.2.1, 0, 0, 0⟩ : S_less_lines))) (jin_cons (get := S_less_lines.xlines) (by decide) (fun _ => rfl) fun _ => (jin_fz (get := S_less_lines.xmask) (by decide) (fun _ => rfl) fun _ => (jin_fz (get := S_less_lines.xmade) (by decide) (fun _ => rfl) fun _ => jin_nil)))
  (js_seq (js_for (ji_lst (je_cp 0 rfl)) Le.refl (jg_t3 (jg_nm 3 (get := S_less_lines.xlead) (put := (fun s v => {s with xlead := v}))) (jg_nm 4 (get := S_less_lines.xother) (put := (fun s v => {s with xother := v}))) (jg_nm 5 (get := S_less_lines.xhow) (put := (fun s v => {s with xhow := v})))) (js_if (Γ' := [some ⟨S_less_lines.xlines, (rM (rT3 rI rI rI))⟩, some ⟨S_less_lines.xmask, rI⟩, some ⟨S_less_lines.xmade, rI⟩, some ⟨S_less_lines.xlead, rI⟩, some ⟨S_less_lines.xother, rI⟩, some ⟨S_less_lines.xhow, rI⟩]) (jt_e (je_op jo_ne (je_s (jp_op jo_I0 (jp_v 1 rfl) (jp_v 3 rfl))) (je_s (jp_i 0)))) (js_seq (js_set 1 (get := S_less_lines.xmask) (put := (fun s v => {s with xmask := v})) (je_s (jp_op jo_I0 (jp_v 1 rfl) (jp_v 4 rfl))))
  (js_set 2 (get := S_less_lines.xmade) (put := (fun s v => {s with xmade := v})) (je_s (jp_op jo_I0 (jp_v 2 rfl) (jp_v 5 rfl))))) js_skip))
  (js_ret (je_t2 (je_s (jp_v 1 rfl)) (je_s (jp_v 2 rfl))) inferInstance (by first | exact Le.refl | (repeat (first | exact Le.nil | refine Le.som inferInstance ?_ | refine Le.non ?_))))) (jout_keep (by decide) rfl (jout_fz (r := rI) (r' := rI) (by decide) (jout_fz (r := rI) (r' := rI) (by decide) jout_nil)))⟩
noncomputable def t_less_lines := T_less_lines.1
structure S_with_line where
 xlines : List (Int × Int × Int)
 xmask : Int
 xmade : Int
 xlead : Int
 xchanged : List (Int × Int × Int)
 xother : Int
 xthere : Int
 xhow : Int
noncomputable def T_with_line : {f : ((List (Int × Int × Int)) × Int × Int × Unit) → Option ((List (Int × Int × Int)) × ((List (Int × Int × Int)) × Int × Int × Unit)) // JF g_with_line f (Pc (rM (rT3 rI rI rI)) (Pc rI (Pc rI Pn))) (rL (rT3 rI rI rI)) (Pc (rM (rT3 rI rI rI)) (Pc rI (Pc rI Pn)))} := ⟨_, by
 exact jf_rt (S := S_with_line) (N := 8) (W := [3, 4, 5, 6, 7]) (c := c_with_line) (Γn := []) (ro := (rL (rT3 rI rI rI))) (Γp := [some ⟨S_with_line.xlines, (rM (rT3 rI rI rI))⟩, some ⟨S_with_line.xmask, rI⟩, some ⟨S_with_line.xmade, rI⟩]) (Γr := [some ⟨S_with_line.xlines, (rM (rT3 rI rI rI))⟩, some ⟨S_with_line.xmask, rI⟩, some ⟨S_with_line.xmade, rI⟩, none, none, none, none, none]) (init := (fun p => (⟨p.1, p.2.1, p.2.2.1, 0, [], 0, 0, 0⟩ : S_with_line))) (jin_cons (get := S_with_line.xlines) (by decide) (fun _ => rfl) fun _ => (jin_cons (get := S_with_line.xmask) (by decide) (fun _ => rfl) fun _ => (jin_cons (get := S_with_line.xmade) (by decide) (fun _ => rfl) fun _ => jin_nil)))
  (js_seq (js_set 3 (get := S_with_line.xlead) (put := (fun s v => {s with xlead := v})) (je_s (jp_op jo_I (jp_i 1) (jp_op jo_I0 (jp_blen (jp_v 1 rfl)) (jp_i 1)))))
  (js_seq (js_set 4 (get := S_with_line.xchanged) (put := (fun s v => {s with xchanged := v})) (je_lst (jl_nil (r := (rT3 rI rI rI)))))
  (js_seq (js_for (ji_lst (je_cp 0 rfl)) Le.refl (jg_t3 (jg_nm 5 (get := S_with_line.xother) (put := (fun s v => {s with xother := v}))) (jg_nm 6 (get := S_with_line.xthere) (put := (fun s v => {s with xthere := v}))) (jg_nm 7 (get := S_with_line.xhow) (put := (fun s v => {s with xhow := v})))) (js_if (Γ' := [some ⟨S_with_line.xlines, (rM (rT3 rI rI rI))⟩, some ⟨S_with_line.xmask, rI⟩, some ⟨S_with_line.xmade, rI⟩, some ⟨S_with_line.xlead, rI⟩, some ⟨S_with_line.xchanged, (rL (rT3 rI rI rI))⟩, some ⟨S_with_line.xother, rI⟩, some ⟨S_with_line.xthere, rI⟩, some ⟨S_with_line.xhow, rI⟩]) (jt_e (je_op jo_ne (je_s (jp_op jo_I0 (jp_v 6 rfl) (jp_v 3 rfl))) (je_s (jp_i 0)))) (js_drop (je_appV 4 (get := S_with_line.xchanged) (put := (fun s v => {s with xchanged := v})) (je_t3 (je_s (jp_v 5 rfl)) (je_s (jp_op jo_I0 (jp_v 6 rfl) (jp_v 1 rfl))) (je_s (jp_op jo_I0 (jp_v 7 rfl) (jp_v 2 rfl)))) rfl rfl)) (js_drop (je_appV 4 (get := S_with_line.xchanged) (put := (fun s v => {s with xchanged := v})) (je_t3 (je_s (jp_v 5 rfl)) (je_s (jp_v 6 rfl)) (je_s (jp_v 7 rfl))) rfl rfl))))
  (js_ret (je_cat (je_mv 4 rfl) (je_lst (r := (rT3 rI rI rI)) (jl_cons (je_t3 (je_s (jp_v 3 rfl)) (je_s (jp_v 1 rfl)) (je_s (jp_v 2 rfl))) jl_nil))) inferInstance (by first | exact Le.refl | (repeat (first | exact Le.nil | refine Le.som inferInstance ?_ | refine Le.non ?_))))))) (jout_keep (by decide) rfl (jout_keep (by decide) rfl (jout_keep (by decide) rfl jout_nil)))⟩
noncomputable def t_with_line := T_with_line.1
theorem j_with_line : JF g_with_line t_with_line (Pc (rM (rT3 rI rI rI)) (Pc rI (Pc rI Pn))) (rL (rT3 rI rI rI)) (Pc (rM (rT3 rI rI rI)) (Pc rI (Pc rI Pn))) := T_with_line.2
theorem j_less_lines_2 : JF g_less_lines t_less_lines (Pc (rM (rT3 rI rI rI)) (Pc rI (Pc rI Pn))) (rT2 rI rI) (Pc (rM (rT3 rI rI rI)) (Pc rI (Pc rI Pn))) := by
 unfold t_less_lines T_less_lines
 exact jf_rt (S := S_less_lines) (N := 6) (W := [3, 4, 5, 1, 2]) (c := c_less_lines) (Γn := []) (ro := (rT2 rI rI)) (Γp := [some ⟨S_less_lines.xlines, (rM (rT3 rI rI rI))⟩, some ⟨S_less_lines.xmask, rI⟩, some ⟨S_less_lines.xmade, rI⟩]) (Γr := [some ⟨S_less_lines.xlines, (rM (rT3 rI rI rI))⟩, none, none, none, none, none]) (init := (fun p => (⟨p.1, p.2.1, p.2.2.1, 0, 0, 0⟩ : S_less_lines))) (jin_cons (get := S_less_lines.xlines) (by decide) (fun _ => rfl) fun _ => (jin_fz (get := S_less_lines.xmask) (by decide) (fun _ => rfl) fun _ => (jin_fz (get := S_less_lines.xmade) (by decide) (fun _ => rfl) fun _ => jin_nil)))
  (js_seq (js_for (ji_lst (je_cp 0 rfl)) Le.refl (jg_t3 (jg_nm 3 (get := S_less_lines.xlead) (put := (fun s v => {s with xlead := v}))) (jg_nm 4 (get := S_less_lines.xother) (put := (fun s v => {s with xother := v}))) (jg_nm 5 (get := S_less_lines.xhow) (put := (fun s v => {s with xhow := v})))) (js_if (Γ' := [some ⟨S_less_lines.xlines, (rM (rT3 rI rI rI))⟩, some ⟨S_less_lines.xmask, rI⟩, some ⟨S_less_lines.xmade, rI⟩, some ⟨S_less_lines.xlead, rI⟩, some ⟨S_less_lines.xother, rI⟩, some ⟨S_less_lines.xhow, rI⟩]) (jt_e (je_op jo_ne (je_s (jp_op jo_I0 (jp_v 1 rfl) (jp_v 3 rfl))) (je_s (jp_i 0)))) (js_seq (js_set 1 (get := S_less_lines.xmask) (put := (fun s v => {s with xmask := v})) (je_s (jp_op jo_I0 (jp_v 1 rfl) (jp_v 4 rfl))))
  (js_set 2 (get := S_less_lines.xmade) (put := (fun s v => {s with xmade := v})) (je_s (jp_op jo_I0 (jp_v 2 rfl) (jp_v 5 rfl))))) js_skip))
  (js_ret (je_t2 (je_s (jp_v 1 rfl)) (je_s (jp_v 2 rfl))) inferInstance (by first | exact Le.refl | (repeat (first | exact Le.nil | refine Le.som inferInstance ?_ | refine Le.non ?_))))) (jout_keep (by decide) rfl (jout_fz (r := rI) (r' := rI) (by decide) (jout_fz (r := rI) (r' := rI) (by decide) jout_nil)))
structure S_lines_of where
 xviews : List (List Int)
 xlines : List (Int × Int × Int)
 xplace : Int
 xview : List Int
 xleft : Int × Int
noncomputable def T_lines_of : {f : ((List (List Int)) × Unit) → Option ((List (Int × Int × Int)) × ((List (List Int)) × Unit)) // JF g_lines_of f (Pc (rL (rM rI)) Pn) (rM (rT3 rI rI rI)) (Pc (rM (rM rI)) Pn)} := ⟨_, by
 exact jf_rt (S := S_lines_of) (N := 5) (W := [1, 2, 3, 4, 1]) (c := c_lines_of) (Γn := []) (ro := (rM (rT3 rI rI rI))) (Γp := [some ⟨S_lines_of.xviews, (rL (rM rI))⟩]) (Γr := [some ⟨S_lines_of.xviews, (rM (rM rI))⟩, none, none, none, none]) (init := (fun p => (⟨p.1, [], 0, [], (0, 0)⟩ : S_lines_of))) (jin_cons (get := S_lines_of.xviews) (by decide) (fun _ => rfl) fun _ => jin_nil)
  (js_seq (js_set 1 (get := S_lines_of.xlines) (put := (fun s v => {s with xlines := v})) (je_lst (jl_nil (r := (rT3 rI rI rI)))))
  (js_seq (js_for (Γh := [some ⟨S_lines_of.xviews, (rM (rM rI))⟩, some ⟨S_lines_of.xlines, (rM (rT3 rI rI rI))⟩, none, none, none]) (ji_en 0 (je_cp 0 rfl)) (by repeat (first | exact Le.nil | refine Le.som inferInstance ?_ | refine Le.non ?_)) (jg_t2 (jg_nm 2 (get := S_lines_of.xplace) (put := (fun s v => {s with xplace := v}))) (jg_nm 3 (get := S_lines_of.xview) (put := (fun s v => {s with xview := v})))) (js_seq (js_set 4 (get := S_lines_of.xleft) (put := (fun s v => {s with xleft := v})) (je_call j_less_lines_2 (ja1_bo 1 rfl (ja1_ex (je_call j_mask_of (ja1_bo 3 rfl ja1_nil) (ja2_ns 3 rfl ja2_nil) (ja3_ns 3 (get := S_lines_of.xview) (put := (fun s v => {s with xview := v})) (by intro _ _; rfl) (by intro _; repeat (first | exact Fr.nil | refine Fr.som (fun _ _ h => h) ?_ | refine Fr.non ?_)) ja3_nil)) (ja1_ex (je_s (jp_op jo_I (jp_i 1) (jp_v 2 rfl))) ja1_nil))) (ja2_ns 1 rfl (ja2_ex (ja2_ex ja2_nil))) (ja3_ns 1 (get := S_lines_of.xlines) (put := (fun s v => {s with xlines := v})) (by intro _ _; rfl) (by intro _; repeat (first | exact Fr.nil | refine Fr.som (fun _ _ h => h) ?_ | refine Fr.non ?_)) (ja3_ex (ja3_ex ja3_nil)))))
  (js_if (Γ' := [some ⟨S_lines_of.xviews, (rM (rM rI))⟩, some ⟨S_lines_of.xlines, (rM (rT3 rI rI rI))⟩, some ⟨S_lines_of.xplace, rI⟩, some ⟨S_lines_of.xview, (rM rI)⟩, some ⟨S_lines_of.xleft, (rT2 rI rI)⟩]) (jt_e (je_op jo_ne (je_s (jp_tix tix20 (jp_v 4 rfl))) (je_s (jp_i 0)))) (js_set 1 (get := S_lines_of.xlines) (put := (fun s v => {s with xlines := v})) (je_call j_with_line (ja1_bo 1 rfl (ja1_ex (je_s (jp_tix tix20 (jp_v 4 rfl))) (ja1_ex (je_s (jp_tix tix21 (jp_v 4 rfl))) ja1_nil))) (ja2_ns 1 rfl (ja2_ex (ja2_ex ja2_nil))) (ja3_ns 1 (get := S_lines_of.xlines) (put := (fun s v => {s with xlines := v})) (by intro _ _; rfl) (by intro _; repeat (first | exact Fr.nil | refine Fr.som (fun _ _ h => h) ?_ | refine Fr.non ?_)) (ja3_ex (ja3_ex ja3_nil))))) js_skip)))
  (js_ret (je_mv 1 rfl) inferInstance (by first | exact Le.refl | (repeat (first | exact Le.nil | refine Le.som inferInstance ?_ | refine Le.non ?_)))))) (jout_keep (by decide) rfl jout_nil)⟩
noncomputable def t_lines_of := T_lines_of.1
theorem j_lines_of : JF g_lines_of t_lines_of (Pc (rL (rM rI)) Pn) (rM (rT3 rI rI rI)) (Pc (rM (rM rI)) Pn) := T_lines_of.2
structure S_rank_of where
 xviews : List (List Int)
noncomputable def T_rank_of : {f : ((List (List Int)) × Unit) → Option (Int × ((List (List Int)) × Unit)) // JF g_rank_of f (Pc (rL (rM rI)) Pn) rI (Pc (rM (rM rI)) Pn)} := ⟨_, by
 exact jf_rt (S := S_rank_of) (N := 1) (W := []) (c := c_rank_of) (Γn := []) (ro := rI) (Γp := [some ⟨S_rank_of.xviews, (rL (rM rI))⟩]) (Γr := [some ⟨S_rank_of.xviews, (rM (rM rI))⟩]) (init := (fun p => (⟨p.1⟩ : S_rank_of))) (jin_cons (get := S_rank_of.xviews) (by decide) (fun _ => rfl) fun _ => jin_nil)
  (js_ret (je_b1 jb_len (je_call j_lines_of (ja1_bo 0 rfl ja1_nil) (ja2_ns 0 rfl ja2_nil) (ja3_ns 0 (get := S_rank_of.xviews) (put := (fun s v => {s with xviews := v})) (by intro _ _; rfl) (by intro _; repeat (first | exact Fr.nil | refine Fr.som (fun _ _ h => h) ?_ | refine Fr.non ?_)) ja3_nil))) inferInstance (by first | exact Le.refl | (repeat (first | exact Le.nil | refine Le.som inferInstance ?_ | refine Le.non ?_)))) (jout_keep (by decide) rfl jout_nil)⟩
noncomputable def t_rank_of := T_rank_of.1
theorem j_rank_of : JF g_rank_of t_rank_of (Pc (rL (rM rI)) Pn) rI (Pc (rM (rM rI)) Pn) := T_rank_of.2
structure S_coin_table where
 xheap : Int × (List (List (List Int)))
noncomputable def T_coin_table : {f : ((Int × (List (List (List Int)))) × Unit) → Option ((List Int) × ((Int × (List (List (List Int)))) × Unit)) // JF g_coin_table f (Pc (rT2 rI (rM (rM (rM rI)))) Pn) (rL rI) (Pc (rT2 rI (rM (rM (rM rI)))) Pn)} := ⟨_, by
 exact jf_rt (S := S_coin_table) (N := 1) (W := []) (c := c_coin_table) (Γn := []) (ro := (rL rI)) (Γp := [some ⟨S_coin_table.xheap, (rT2 rI (rM (rM (rM rI))))⟩]) (Γr := [some ⟨S_coin_table.xheap, (rT2 rI (rM (rM (rM rI))))⟩]) (init := (fun p => (⟨p.1⟩ : S_coin_table))) (jin_cons (get := S_coin_table.xheap) (by decide) (fun _ => rfl) fun _ => jin_nil)
  (js_ret (je_lc (ji_r2 (je_s (jp_i 1)) (je_op jo_I0 (je_call j_all_names (ja1_ex (je_s (jp_b1 jb_len (jp_tix tix21 (jp_v 0 rfl)))) ja1_nil) (ja2_ex ja2_nil) (ja3_ex ja3_nil)) (je_s (jp_i 1)))) Le.refl (jgc1 1 rfl) (fun x11 => jt_true) (fun x11 => (je_call j_rank_of (ja1_ex (je_call j_views_of (ja1_bo 0 rfl (ja1_bo 1 rfl ja1_nil)) (ja2_ns 0 rfl (ja2_sc 1 rfl ja2_nil)) (ja3_ns 0 (get := S_coin_table.xheap) (put := (fun s v => {s with xheap := v})) (by intro _ _; rfl) (by intro _; repeat (first | exact Fr.nil | refine Fr.som (fun _ _ h => h) ?_ | refine Fr.non ?_)) (ja3_sc 1 ja3_nil))) ja1_nil) (ja2_ex ja2_nil) (ja3_ex ja3_nil)))) inferInstance (by first | exact Le.refl | (repeat (first | exact Le.nil | refine Le.som inferInstance ?_ | refine Le.non ?_)))) (jout_keep (by decide) rfl jout_nil)⟩
noncomputable def t_coin_table := T_coin_table.1
theorem j_coin_table : JF g_coin_table t_coin_table (Pc (rT2 rI (rM (rM (rM rI)))) Pn) (rL rI) (Pc (rT2 rI (rM (rM (rM rI)))) Pn) := T_coin_table.2
structure S_lmask where
 yview : List Int
noncomputable def T_lmask : {f : ((List Int) × Unit) → Option (Int × ((List Int) × Unit)) // JF g_lmask f (Pc (rM rI) Pn) rI (Pc (rM rI) Pn)} := ⟨_, by
 exact jf_rt (S := S_lmask) (N := 1) (W := []) (c := c_lmask) (Γn := []) (ro := rI) (Γp := [some ⟨S_lmask.yview, (rM rI)⟩]) (Γr := [some ⟨S_lmask.yview, (rM rI)⟩]) (init := (fun p => (⟨p.1⟩ : S_lmask))) (jin_cons (get := S_lmask.yview) (by decide) (fun _ => rfl) fun _ => jin_nil)
  (js_ret (je_b1 jb_sum (je_lc (ji_lst (je_cp 0 rfl)) Le.refl (jgc1 1 rfl) (fun x17 => jt_true) (fun x17 => (je_s (jp_op jo_I (jp_i 1) (jp_v 1 rfl)))))) inferInstance (by first | exact Le.refl | (repeat (first | exact Le.nil | refine Le.som inferInstance ?_ | refine Le.non ?_)))) (jout_keep (by decide) rfl jout_nil)⟩
noncomputable def t_lmask := T_lmask.1
theorem j_lmask : JF g_lmask t_lmask (Pc (rM rI) Pn) rI (Pc (rM rI) Pn) := T_lmask.2
structure S_lmasks where
 yheap_here : Int × (List (List (List Int)))
 yg : Int
 yfound : List Int
 yname : Int
noncomputable def T_lmasks : {f : ((Int × (List (List (List Int)))) × Int × Unit) → Option ((List Int) × ((Int × (List (List (List Int)))) × Int × Unit)) // JF g_lmasks f (Pc (rT2 rI (rM (rM (rM rI)))) (Pc rI Pn)) (rL rI) (Pc (rT2 rI (rM (rM (rM rI)))) (Pc rI Pn))} := ⟨_, by
 exact jf_rt (S := S_lmasks) (N := 4) (W := [2, 3, 2]) (c := c_lmasks) (Γn := []) (ro := (rL rI)) (Γp := [some ⟨S_lmasks.yheap_here, (rT2 rI (rM (rM (rM rI))))⟩, some ⟨S_lmasks.yg, rI⟩]) (Γr := [some ⟨S_lmasks.yheap_here, (rT2 rI (rM (rM (rM rI))))⟩, some ⟨S_lmasks.yg, rI⟩, none, none]) (init := (fun p => (⟨p.1, p.2.1, [], 0⟩ : S_lmasks))) (jin_cons (get := S_lmasks.yheap_here) (by decide) (fun _ => rfl) fun _ => (jin_cons (get := S_lmasks.yg) (by decide) (fun _ => rfl) fun _ => jin_nil))
  (js_seq (js_set 2 (get := S_lmasks.yfound) (put := (fun s v => {s with yfound := v})) (je_lst (jl_nil (r := rI))))
  (js_seq (js_for (ji_r1 (je_s (jp_b1 jb_len (jp_tix tix21 (jp_v 0 rfl))))) Le.refl (jg_nm 3 (get := S_lmasks.yname) (put := (fun s v => {s with yname := v}))) (js_if (Γ' := [some ⟨S_lmasks.yheap_here, (rT2 rI (rM (rM (rM rI))))⟩, some ⟨S_lmasks.yg, rI⟩, some ⟨S_lmasks.yfound, (rL rI)⟩, some ⟨S_lmasks.yname, rI⟩]) (jt_e (je_op jo_eq (je_s (jp_op jo_I (jp_op jo_I (jp_v 1 rfl) (jp_op jo_I (jp_i 1) (jp_v 3 rfl))) (jp_i 2))) (je_s (jp_i 1)))) (js_set 2 (get := S_lmasks.yfound) (put := (fun s v => {s with yfound := v})) (je_cat (je_mv 2 rfl) (je_lc (ji_lst (je_ix (je_tix tix21 (je_cp 0 rfl)) (je_s (jp_v 3 rfl)))) Le.refl (jgc1 4 rfl) (fun x16 => jt_true) (fun x16 => (je_call j_lmask (ja1_bo 4 rfl ja1_nil) (ja2_ns 4 rfl ja2_nil) (ja3_any 4 ja3_nil)))))) js_skip))
  (js_ret (je_mv 2 rfl) inferInstance (by first | exact Le.refl | (repeat (first | exact Le.nil | refine Le.som inferInstance ?_ | refine Le.non ?_)))))) (jout_keep (by decide) rfl (jout_keep (by decide) rfl jout_nil))⟩
noncomputable def t_lmasks := T_lmasks.1
theorem j_lmasks : JF g_lmasks t_lmasks (Pc (rT2 rI (rM (rM (rM rI)))) (Pc rI Pn)) (rL rI) (Pc (rT2 rI (rM (rM (rM rI)))) (Pc rI Pn)) := T_lmasks.2
structure S_lrank where
 ymasks_here : List Int
 yrows : List Int
 ymask_here : Int
noncomputable def T_lrank : {f : ((List Int) × Unit) → Option (Int × ((List Int) × Unit)) // JF g_lrank f (Pc (rL rI) Pn) rI (Pc (rM rI) Pn)} := ⟨_, by
 exact jf_rt (S := S_lrank) (N := 4) (W := [1, 2, 3, 2, 3, 2]) (c := c_lrank) (Γn := []) (ro := rI) (Γp := [some ⟨S_lrank.ymasks_here, (rL rI)⟩]) (Γr := [some ⟨S_lrank.ymasks_here, (rM rI)⟩, none, none, none]) (init := (fun p => (⟨p.1, [], 0⟩ : S_lrank))) (jin_cons (get := S_lrank.ymasks_here) (by decide) (fun _ => rfl) fun _ => jin_nil)
  (js_seq (js_set 1 (get := S_lrank.yrows) (put := (fun s v => {s with yrows := v})) (je_lst (jl_nil (r := rI))))
  (js_seq (js_for (ji_lst (je_cp 0 rfl)) Le.refl (jg_nm 2 (get := S_lrank.ymask_here) (put := (fun s v => {s with ymask_here := v}))) (js_seq (js_selL (i := 1) rfl (js_forBn 1 3 (get := S_lrank.yrows) (put := (fun s v => {s with yrows := v})) rfl (fun x18 _ => (js_set 2 (get := S_lrank.ymask_here) (put := (fun s v => {s with ymask_here := v})) (je_s (jp_b2 jb_min (jp_v 2 rfl) (jp_op jo_I0 (jp_v 2 rfl) (jp_v 3 rfl)))) (hi := by show 2 < 4; decide))) (hx := by show 3 < 4; omega)))
  (js_if (Γ' := [some ⟨S_lrank.ymasks_here, (rM rI)⟩, some ⟨S_lrank.yrows, (rL rI)⟩, some ⟨S_lrank.ymask_here, rI⟩, none]) (jt_e (je_op jo_B0 (je_s (jp_v 2 rfl)) (je_s (jp_i 0)))) (js_drop (je_app 1 (get := S_lrank.yrows) (put := (fun s v => {s with yrows := v})) (jp_v 2 rfl) rfl)) js_skip)))
  (js_ret (je_s (jp_b1 jb_len (jp_v 1 rfl))) inferInstance (by first | exact Le.refl | (repeat (first | exact Le.nil | refine Le.som inferInstance ?_ | refine Le.non ?_)))))) (jout_keep (by decide) rfl jout_nil)⟩
noncomputable def t_lrank := T_lrank.1
theorem j_lrank : JF g_lrank t_lrank (Pc (rL rI) Pn) rI (Pc (rM rI) Pn) := T_lrank.2
structure S_ltable where
 yheap_here : Int × (List (List (List Int)))
noncomputable def T_ltable : {f : ((Int × (List (List (List Int)))) × Unit) → Option ((List Int) × ((Int × (List (List (List Int)))) × Unit)) // JF g_ltable f (Pc (rT2 rI (rM (rM (rM rI)))) Pn) (rL rI) (Pc (rT2 rI (rM (rM (rM rI)))) Pn)} := ⟨_, by
 exact jf_rt (S := S_ltable) (N := 1) (W := []) (c := c_ltable) (Γn := []) (ro := (rL rI)) (Γp := [some ⟨S_ltable.yheap_here, (rT2 rI (rM (rM (rM rI))))⟩]) (Γr := [some ⟨S_ltable.yheap_here, (rT2 rI (rM (rM (rM rI))))⟩]) (init := (fun p => (⟨p.1⟩ : S_ltable))) (jin_cons (get := S_ltable.yheap_here) (by decide) (fun _ => rfl) fun _ => jin_nil)
  (js_ret (je_lc (ji_r2 (je_s (jp_i 1)) (je_s (jp_op jo_I (jp_i 1) (jp_b1 jb_len (jp_tix tix21 (jp_v 0 rfl)))))) Le.refl (jgc1 1 rfl) (fun x15 => jt_true) (fun x15 => (je_call j_lrank (ja1_ex (je_call j_lmasks (ja1_bo 0 rfl (ja1_bo 1 rfl ja1_nil)) (ja2_ns 0 rfl (ja2_sc 1 rfl ja2_nil)) (ja3_ns 0 (get := S_ltable.yheap_here) (put := (fun s v => {s with yheap_here := v})) (by intro _ _; rfl) (by intro _; repeat (first | exact Fr.nil | refine Fr.som (fun _ _ h => h) ?_ | refine Fr.non ?_)) (ja3_sc 1 ja3_nil))) ja1_nil) (ja2_ex ja2_nil) (ja3_ex ja3_nil)))) inferInstance (by first | exact Le.refl | (repeat (first | exact Le.nil | refine Le.som inferInstance ?_ | refine Le.non ?_)))) (jout_keep (by decide) rfl jout_nil)⟩
noncomputable def t_ltable := T_ltable.1
theorem j_ltable : JF g_ltable t_ltable (Pc (rT2 rI (rM (rM (rM rI)))) Pn) (rL rI) (Pc (rT2 rI (rM (rM (rM rI)))) Pn) := T_ltable.2
structure S_lspoil where
 yheap_here : Int × (List (List (List Int)))
 yrow : List (List Int)
 yview : List Int
noncomputable def T_lspoil : {f : ((Int × (List (List (List Int)))) × Unit) → Option (Unit × ((Int × (List (List (List Int)))) × Unit)) // JF g_lspoil f (Pc (rT2 rI (rL (rL (rL rI)))) Pn) rN (Pc (rT2 rI (rL (rL (rL rI)))) Pn)} := ⟨_, by
 exact jf_nx (S := S_lspoil) (N := 3) (W := [1, 2, 2]) (c := c_lspoil) (Γp := [some ⟨S_lspoil.yheap_here, (rT2 rI (rL (rL (rL rI))))⟩]) (Γr := [some ⟨S_lspoil.yheap_here, (rT2 rI (rL (rL (rL rI))))⟩, none, none]) (init := (fun p => (⟨p.1, [], []⟩ : S_lspoil))) (jin_cons (get := S_lspoil.yheap_here) (by decide) (fun _ => rfl) fun _ => jin_nil)
  (js_seq (js_forMP 0 1 (get := S_lspoil.yheap_here) (put := (fun s v => {s with yheap_here := v})) (getx := S_lspoil.yrow) (putx := (fun s v => {s with yrow := v})) rfl (js_seq (js_selL (i := 1) rfl (js_forM 1 2 (get := S_lspoil.yrow) (put := (fun s v => {s with yrow := v})) (getx := S_lspoil.yview) (putx := (fun s v => {s with yview := v})) rfl (js_drop (je_app 2 (get := S_lspoil.yview) (put := (fun s v => {s with yview := v})) (jp_i 99) rfl))))
  (js_drop (je_appV 1 (get := S_lspoil.yrow) (put := (fun s v => {s with yrow := v})) (je_lst (r := rI) (jl_cons (je_s (jp_i 7)) jl_nil)) rfl rfl))))
  (js_drop (je_appL1 0 (get := S_lspoil.yheap_here) (put := (fun s v => {s with yheap_here := v})) rfl))) (by first | exact Le.refl | (repeat (first | exact Le.nil | refine Le.som inferInstance ?_ | refine Le.non ?_))) (jout_keep (by decide) rfl jout_nil)⟩
noncomputable def t_lspoil := T_lspoil.1
theorem j_lspoil : JF g_lspoil t_lspoil (Pc (rT2 rI (rL (rL (rL rI)))) Pn) rN (Pc (rT2 rI (rL (rL (rL rI)))) Pn) := T_lspoil.2
structure S_taken where
 xheap : Int × (List (List (List Int)))
 xtimes : Int
 xfound : Int × (List (List (List Int)))
 xstep : Int
noncomputable def T_taken : {f : ((Int × (List (List (List Int)))) × Int × Unit) → Option ((Int × (List (List (List Int)))) × ((Int × (List (List (List Int)))) × Int × Unit)) // JF g_taken f (Pc (rT2 rI (rM (rM (rM rI)))) (Pc rI Pn)) (rT2 rI (rL (rL (rL rI)))) (Pc (rT2 rI (rM (rM (rM rI)))) (Pc rI Pn))} := ⟨_, by
 exact jf_rt (S := S_taken) (N := 4) (W := [2, 3, 2]) (c := c_taken) (Γn := []) (ro := (rT2 rI (rL (rL (rL rI))))) (Γp := [some ⟨S_taken.xheap, (rT2 rI (rM (rM (rM rI))))⟩, some ⟨S_taken.xtimes, rI⟩]) (Γr := [some ⟨S_taken.xheap, (rT2 rI (rM (rM (rM rI))))⟩, some ⟨S_taken.xtimes, rI⟩, none, none]) (init := (fun p => (⟨p.1, p.2.1, (0, []), 0⟩ : S_taken))) (jin_cons (get := S_taken.xheap) (by decide) (fun _ => rfl) fun _ => (jin_cons (get := S_taken.xtimes) (by decide) (fun _ => rfl) fun _ => jin_nil))
  (js_seq (js_set 2 (get := S_taken.xfound) (put := (fun s v => {s with xfound := v})) (je_t2 (je_s (jp_i 0)) (je_lc (ji_lst (je_tix tix21 (je_cp 0 rfl))) Le.refl (jgc1 4 rfl) (fun x19 => jt_true) (fun x19 => (je_lst (jl_nil (r := (rL rI))))))))
  (js_seq (js_for (ji_r1 (je_s (jp_v 1 rfl))) Le.refl (jg_nm 3 (get := S_taken.xstep) (put := (fun s v => {s with xstep := v}))) (js_set 2 (get := S_taken.xfound) (put := (fun s v => {s with xfound := v})) (je_call j_beside (ja1_bo 2 rfl (ja1_bo 0 rfl ja1_nil)) (ja2_ns 2 rfl (ja2_ns 0 rfl ja2_nil)) (ja3_ns 2 (get := S_taken.xfound) (put := (fun s v => {s with xfound := v})) (by intro _ _; rfl) (by intro _; repeat (first | exact Fr.nil | refine Fr.som (fun _ _ h => h) ?_ | refine Fr.non ?_)) (ja3_ns 0 (get := S_taken.xheap) (put := (fun s v => {s with xheap := v})) (by intro _ _; rfl) (by intro _; repeat (first | exact Fr.nil | refine Fr.som (fun _ _ h => h) ?_ | refine Fr.non ?_)) ja3_nil)))))
  (js_ret (je_mv 2 rfl) inferInstance (by first | exact Le.refl | (repeat (first | exact Le.nil | refine Le.som inferInstance ?_ | refine Le.non ?_)))))) (jout_keep (by decide) rfl (jout_keep (by decide) rfl jout_nil))⟩
noncomputable def t_taken := T_taken.1
theorem j_taken : JF g_taken t_taken (Pc (rT2 rI (rM (rM (rM rI)))) (Pc rI Pn)) (rT2 rI (rL (rL (rL rI)))) (Pc (rT2 rI (rM (rM (rM rI)))) (Pc rI Pn)) := T_taken.2
structure S_law where
 yscript : List Int
 yk : Int
 ycell : Int
 yn : Int
 yone : Int × (List (List (List Int)))
 yother : Int × (List (List (List Int)))
 ykept : List (Int × (List (List (List Int))))
 ydue : Int × (List (List (List Int)))
 ymany : Int
 ywhole_here : Int × (List (List (List Int)))
 ytime : Int
 ytold : Int × (List (List (List Int)))
noncomputable def T_law : {f : ((List Int) × Unit) → Option (Bool × ((List Int) × Unit)) // JF g_law f (Pc (rM rI) Pn) rB (Pc (rM rI) Pn)} := ⟨_, by
 exact jf_rt (S := S_law) (N := 12) (W := [1, 2, 3, 4, 5, 6, 7, 8, 9, 10, 9, 10, 11, 11]) (c := c_law) (Γn := []) (ro := rB) (Γp := [some ⟨S_law.yscript, (rM rI)⟩]) (Γr := [some ⟨S_law.yscript, (rM rI)⟩, none, none, none, none, none, none, none, none, none, none, none]) (init := (fun p => (⟨p.1, 0, 0, 0, (0, []), (0, []), [], (0, []), 0, (0, []), 0, (0, [])⟩ : S_law))) (jin_cons (get := S_law.yscript) (by decide) (fun _ => rfl) fun _ => jin_nil)
  (js_seq (js_for (ji_tw (je_s (jp_b2 jb_max (jp_i 2) (jp_b2 jb_min (jp_i 40) (jp_op jo_I0 (jp_b1 jb_len (jp_v 0 rfl)) (jp_i 1)))))) Le.refl (jg_nm 1 (get := S_law.yk) (put := (fun s v => {s with yk := v}))) (js_seq (js_set 2 (get := S_law.ycell) (put := (fun s v => {s with ycell := v})) (je_call j_lcell_at (ja1_bo 0 rfl (ja1_bo 1 rfl ja1_nil)) (ja2_ns 0 rfl (ja2_sc 1 rfl ja2_nil)) (ja3_ns 0 (get := S_law.yscript) (put := (fun s v => {s with yscript := v})) (by intro _ _; rfl) (by intro _; repeat (first | exact Fr.nil | refine Fr.som (fun _ _ h => h) ?_ | refine Fr.non ?_)) (ja3_sc 1 ja3_nil))))
  (js_seq (js_set 3 (get := S_law.yn) (put := (fun s v => {s with yn := v})) (je_s (jp_op jo_I0 (jp_i 1) (jp_op jo_I (jp_v 2 rfl) (jp_i 4)))))
  (js_seq (js_set 4 (get := S_law.yone) (put := (fun s v => {s with yone := v})) (je_call j_lheap (ja1_ex (je_s (jp_op jo_I (jp_v 2 rfl) (jp_i 4))) (ja1_bo 3 rfl (ja1_ex (je_s (jp_i 12)) ja1_nil))) (ja2_ex (ja2_sc 3 rfl (ja2_ex ja2_nil))) (ja3_ex (ja3_sc 3 (ja3_ex ja3_nil)))))
  (js_seq (js_set 5 (get := S_law.yother) (put := (fun s v => {s with yother := v})) (je_call j_lheap (ja1_ex (je_call j_lcell_at (ja1_bo 0 rfl (ja1_ex (je_s (jp_op jo_I0 (jp_v 1 rfl) (jp_i 1))) ja1_nil)) (ja2_ns 0 rfl (ja2_ex ja2_nil)) (ja3_ns 0 (get := S_law.yscript) (put := (fun s v => {s with yscript := v})) (by intro _ _; rfl) (by intro _; repeat (first | exact Fr.nil | refine Fr.som (fun _ _ h => h) ?_ | refine Fr.non ?_)) (ja3_ex ja3_nil))) (ja1_bo 3 rfl (ja1_ex (je_s (jp_i 12)) ja1_nil))) (ja2_ex (ja2_sc 3 rfl (ja2_ex ja2_nil))) (ja3_ex (ja3_sc 3 (ja3_ex ja3_nil)))))
  (js_seq (js_set 6 (get := S_law.ykept) (put := (fun s v => {s with ykept := v})) (je_lst (r := (rT2 rI (rL (rL (rL rI))))) (jl_cons (je_call j_lcopy (ja1_bo 4 rfl ja1_nil) (ja2_ns 4 rfl ja2_nil) (ja3_ns 4 (get := S_law.yone) (put := (fun s v => {s with yone := v})) (by intro _ _; rfl) (by intro _; repeat (first | exact Fr.nil | refine Fr.som (fun _ _ h => h) ?_ | refine Fr.non ?_)) ja3_nil)) (jl_cons (je_call j_lcopy (ja1_bo 5 rfl ja1_nil) (ja2_ns 5 rfl ja2_nil) (ja3_ns 5 (get := S_law.yother) (put := (fun s v => {s with yother := v})) (by intro _ _; rfl) (by intro _; repeat (first | exact Fr.nil | refine Fr.som (fun _ _ h => h) ?_ | refine Fr.non ?_)) ja3_nil)) jl_nil))))
  (js_seq (js_set 7 (get := S_law.ydue) (put := (fun s v => {s with ydue := v})) (je_call j_lbeside (ja1_ex (je_ix (je_cp 6 rfl) (je_s (jp_i 0))) (ja1_ex (je_ix (je_cp 6 rfl) (je_s (jp_i 1))) ja1_nil)) (ja2_ex (ja2_ex ja2_nil)) (ja3_ex (ja3_ex ja3_nil))))
  (js_seq (js_set 8 (get := S_law.ymany) (put := (fun s v => {s with ymany := v})) (je_s (jp_op jo_I (jp_op jo_I (jp_v 2 rfl) (jp_i 4)) (jp_i 4))))
  (js_seq (js_set 9 (get := S_law.ywhole_here) (put := (fun s v => {s with ywhole_here := v})) (je_t2 (je_s (jp_i 0)) (je_lc (ji_r1 (je_s (jp_v 3 rfl))) Le.refl (jgc1 12 rfl) (fun x7 => jt_true) (fun x7 => (je_lst (jl_nil (r := (rL rI))))))))
  (js_seq (js_for (Γh := [some ⟨S_law.yscript, (rM rI)⟩, some ⟨S_law.yk, rI⟩, some ⟨S_law.ycell, rI⟩, some ⟨S_law.yn, rI⟩, some ⟨S_law.yone, (rT2 rI (rM (rM (rM rI))))⟩, some ⟨S_law.yother, (rT2 rI (rM (rM (rM rI))))⟩, some ⟨S_law.ykept, (rM (rT2 rI (rM (rM (rM rI)))))⟩, some ⟨S_law.ydue, (rT2 rI (rL (rL (rM rI))))⟩, some ⟨S_law.ymany, rI⟩, some ⟨S_law.ywhole_here, (rT2 rI (rL (rL (rM rI))))⟩, none, none]) (ji_r1 (je_s (jp_v 8 rfl))) (by repeat (first | exact Le.nil | refine Le.som inferInstance ?_ | refine Le.non ?_)) (jg_nm 10 (get := S_law.ytime) (put := (fun s v => {s with ytime := v}))) (js_set 9 (get := S_law.ywhole_here) (put := (fun s v => {s with ywhole_here := v})) (je_call j_lbeside (ja1_bo 9 rfl (ja1_ex (je_ix (je_cp 6 rfl) (je_s (jp_i 0))) ja1_nil)) (ja2_ns 9 rfl (ja2_ex ja2_nil)) (ja3_ns 9 (get := S_law.ywhole_here) (put := (fun s v => {s with ywhole_here := v})) (by intro _ _; rfl) (by intro _; repeat (first | exact Fr.nil | refine Fr.som (fun _ _ h => h) ?_ | refine Fr.non ?_)) (ja3_ex ja3_nil)))))
  (js_seq (js_for (ji_r1 (je_s (jp_i 2))) Le.refl (jg_nm 10 (get := S_law.ytime) (put := (fun s v => {s with ytime := v}))) (js_seq (js_set 11 (get := S_law.ytold) (put := (fun s v => {s with ytold := v})) (je_call j_beside (ja1_bo 4 rfl (ja1_bo 5 rfl ja1_nil)) (ja2_ns 4 rfl (ja2_ns 5 rfl ja2_nil)) (ja3_ns 4 (get := S_law.yone) (put := (fun s v => {s with yone := v})) (by intro _ _; rfl) (by intro _; repeat (first | exact Fr.nil | refine Fr.som (fun _ _ h => h) ?_ | refine Fr.non ?_)) (ja3_ns 5 (get := S_law.yother) (put := (fun s v => {s with yother := v})) (by intro _ _; rfl) (by intro _; repeat (first | exact Fr.nil | refine Fr.som (fun _ _ h => h) ?_ | refine Fr.non ?_)) ja3_nil))))
  (js_seq (js_if (Γ' := [some ⟨S_law.yscript, (rM rI)⟩, some ⟨S_law.yk, rI⟩, some ⟨S_law.ycell, rI⟩, some ⟨S_law.yn, rI⟩, some ⟨S_law.yone, (rT2 rI (rM (rM (rM rI))))⟩, some ⟨S_law.yother, (rT2 rI (rM (rM (rM rI))))⟩, some ⟨S_law.ykept, (rM (rT2 rI (rM (rM (rM rI)))))⟩, some ⟨S_law.ydue, (rT2 rI (rL (rL (rM rI))))⟩, some ⟨S_law.ymany, rI⟩, some ⟨S_law.ywhole_here, (rT2 rI (rL (rL (rM rI))))⟩, some ⟨S_law.ytime, rI⟩, some ⟨S_law.ytold, (rT2 rI (rL (rL (rL rI))))⟩]) (jt_or (jt_not (jt_e (je_s (jp_b2 jb_isi (jp_v 11 rfl) (jp_ty "tuple"))))) (jt_or (jt_not (jt_e (je_s (jp_b2 jb_isi (jp_tix tix21 (jp_v 11 rfl)) (jp_ty "list"))))) (jt_or (jt_e (je_s (jp_op jo_ne (jp_v 11 rfl) (jp_v 7 rfl)))) (jt_e (je_s (jp_op jo_ne (jp_lst (jpl_cons (jp_v 4 rfl) (jpl_cons (jp_v 5 rfl) jpl_nil))) (jp_v 6 rfl))))))) js_dead js_skip)
  (js_seq (js_if (Γ' := [some ⟨S_law.yscript, (rM rI)⟩, some ⟨S_law.yk, rI⟩, some ⟨S_law.ycell, rI⟩, some ⟨S_law.yn, rI⟩, some ⟨S_law.yone, (rT2 rI (rM (rM (rM rI))))⟩, some ⟨S_law.yother, (rT2 rI (rM (rM (rM rI))))⟩, some ⟨S_law.ykept, (rM (rT2 rI (rM (rM (rM rI)))))⟩, some ⟨S_law.ydue, (rT2 rI (rL (rL (rM rI))))⟩, some ⟨S_law.ymany, rI⟩, some ⟨S_law.ywhole_here, (rT2 rI (rL (rL (rM rI))))⟩, some ⟨S_law.ytime, rI⟩, some ⟨S_law.ytold, (rT2 rI (rL (rL (rL rI))))⟩]) (jt_e (je_op jo_ne (je_hide 9 (get := S_law.ywhole_here) (put := (fun s v => {s with ywhole_here := v})) (je_hide 7 (get := S_law.ydue) (put := (fun s v => {s with ydue := v})) (je_hide 6 (get := S_law.ykept) (put := (fun s v => {s with ykept := v})) (je_hide 5 (get := S_law.yother) (put := (fun s v => {s with yother := v})) (je_hide 4 (get := S_law.yone) (put := (fun s v => {s with yone := v})) (je_hide 0 (get := S_law.yscript) (put := (fun s v => {s with yscript := v})) (je_thaw (Γ2 := [none, some ⟨S_law.yk, rI⟩, some ⟨S_law.ycell, rI⟩, some ⟨S_law.yn, rI⟩, none, none, none, none, some ⟨S_law.ymany, rI⟩, none, some ⟨S_law.ytime, rI⟩, none]) 11 (get := S_law.ytold) (put := (fun s v => {s with ytold := v})) (je_call j_coin_table (ja1_bo 11 rfl ja1_nil) (ja2_ns 11 rfl ja2_nil) (ja3_ns 11 (get := S_law.ytold) (put := (fun s v => {s with ytold := v})) (by intro _ _; rfl) (by intro _; repeat (first | exact Fr.nil | refine Fr.som (fun _ _ h => h) ?_ | refine Fr.non ?_)) ja3_nil)) (by repeat (first | exact Tw.nil | refine Tw.som inferInstance ?_ | refine Tw.non ?_)) rfl) rfl) rfl) rfl) rfl) rfl) rfl) (je_lc (ji_zip (je_call j_ltable (ja1_ex (je_ix (je_cp 6 rfl) (je_s (jp_i 0))) ja1_nil) (ja2_ex ja2_nil) (ja3_ex ja3_nil)) (je_call j_ltable (ja1_ex (je_ix (je_cp 6 rfl) (je_s (jp_i 1))) ja1_nil) (ja2_ex ja2_nil) (ja3_ex ja3_nil))) Le.refl (jgc2 12 13 rfl rfl) (fun x14 => jt_true) (fun x14 => (je_s (jp_op jo_I0 (jp_v 12 rfl) (jp_v 13 rfl))))))) js_dead js_skip)
  (js_seq (js_drop (je_call j_lspoil (ja1_bo 11 rfl ja1_nil) (ja2_ns 11 rfl ja2_nil) (ja3_ns 11 (get := S_law.ytold) (put := (fun s v => {s with ytold := v})) (by intro _ _; rfl) (by intro _; repeat (first | exact Fr.nil | refine Fr.som (fun _ _ h => h) ?_ | refine Fr.non ?_)) ja3_nil)))
  (js_seq (js_set 11 (get := S_law.ytold) (put := (fun s v => {s with ytold := v})) (je_call j_taken (ja1_bo 4 rfl (ja1_bo 8 rfl ja1_nil)) (ja2_ns 4 rfl (ja2_sc 8 rfl ja2_nil)) (ja3_ns 4 (get := S_law.yone) (put := (fun s v => {s with yone := v})) (by intro _ _; rfl) (by intro _; repeat (first | exact Fr.nil | refine Fr.som (fun _ _ h => h) ?_ | refine Fr.non ?_)) (ja3_sc 8 ja3_nil))))
  (js_seq (js_if (Γ' := [some ⟨S_law.yscript, (rM rI)⟩, some ⟨S_law.yk, rI⟩, some ⟨S_law.ycell, rI⟩, some ⟨S_law.yn, rI⟩, some ⟨S_law.yone, (rT2 rI (rM (rM (rM rI))))⟩, some ⟨S_law.yother, (rT2 rI (rM (rM (rM rI))))⟩, some ⟨S_law.ykept, (rM (rT2 rI (rM (rM (rM rI)))))⟩, some ⟨S_law.ydue, (rT2 rI (rL (rL (rM rI))))⟩, some ⟨S_law.ymany, rI⟩, some ⟨S_law.ywhole_here, (rT2 rI (rL (rL (rM rI))))⟩, some ⟨S_law.ytime, rI⟩, some ⟨S_law.ytold, (rT2 rI (rL (rL (rL rI))))⟩]) (jt_or (jt_not (jt_e (je_s (jp_b2 jb_isi (jp_v 11 rfl) (jp_ty "tuple"))))) (jt_or (jt_e (je_s (jp_op jo_ne (jp_v 11 rfl) (jp_v 9 rfl)))) (jt_e (je_s (jp_op jo_ne (jp_v 4 rfl) (jp_op jo_ix (jp_v 6 rfl) (jp_i 0))))))) js_dead js_skip)
  (js_drop (je_call j_lspoil (ja1_bo 11 rfl ja1_nil) (ja2_ns 11 rfl ja2_nil) (ja3_ns 11 (get := S_law.ytold) (put := (fun s v => {s with ytold := v})) (by intro _ _; rfl) (by intro _; repeat (first | exact Fr.nil | refine Fr.som (fun _ _ h => h) ?_ | refine Fr.non ?_)) ja3_nil))))))))))
  (js_if (Γ' := [some ⟨S_law.yscript, (rM rI)⟩, some ⟨S_law.yk, rI⟩, some ⟨S_law.ycell, rI⟩, some ⟨S_law.yn, rI⟩, some ⟨S_law.yone, (rT2 rI (rM (rM (rM rI))))⟩, some ⟨S_law.yother, (rT2 rI (rM (rM (rM rI))))⟩, some ⟨S_law.ykept, (rM (rT2 rI (rM (rM (rM rI)))))⟩, some ⟨S_law.ydue, (rT2 rI (rL (rL (rM rI))))⟩, some ⟨S_law.ymany, rI⟩, some ⟨S_law.ywhole_here, (rT2 rI (rL (rL (rM rI))))⟩, none, none]) (jt_or (jt_e (je_op jo_ne (je_call j_beside (ja1_ex (je_cp 4 rfl) (ja1_ex (je_cp 4 rfl) ja1_nil)) (ja2_ex (ja2_ex ja2_nil)) (ja3_ex (ja3_ex ja3_nil))) (je_call j_lbeside (ja1_ex (je_ix (je_cp 6 rfl) (je_s (jp_i 0))) (ja1_ex (je_ix (je_cp 6 rfl) (je_s (jp_i 0))) ja1_nil)) (ja2_ex (ja2_ex ja2_nil)) (ja3_ex (ja3_ex ja3_nil))))) (jt_e (je_s (jp_op jo_ne (jp_lst (jpl_cons (jp_v 4 rfl) (jpl_cons (jp_v 5 rfl) jpl_nil))) (jp_v 6 rfl))))) js_dead js_skip))))))))))))
  (js_ret (je_s (jp_b true)) inferInstance (by first | exact Le.refl | (repeat (first | exact Le.nil | refine Le.som inferInstance ?_ | refine Le.non ?_))))) (jout_keep (by decide) rfl jout_nil)⟩
noncomputable def t_law := T_law.1
theorem j_law : JF g_law t_law (Pc (rM rI) Pn) rB (Pc (rM rI) Pn) := T_law.2
end LW
namespace LW
open PySem L2 DD TT RK
theorem rng_mem {n x : Int} (h : x ∈ rng 0 n) : ∃ k : Nat, x = (k : Int) ∧ (k : Int) < n := by
 unfold rng at h
 obtain ⟨k, hk, rfl⟩ := List.mem_map.mp h
 rw [List.mem_range] at hk
 exact ⟨k, by omega, by omega⟩
theorem rng_len0 (n : Int) : (rng 0 n).length = n.toNat := by simp [rng]
theorem rng_get0 {n k : Int} {j : Nat} (h : (rng 0 n)[j]? = some k) : k = (j : Int) ∧ (j : Int) < n := by
 unfold rng at h
 rw [List.getElem?_map] at h
 rcases hk : (List.range (n - 0).toNat)[j]? with _ | i
 ·rw [hk] at h; cases h
 ·rw [hk] at h
  have hl := (List.getElem?_eq_some_iff.mp hk).1
  have hj := (List.getElem?_eq_some_iff.mp hk).2
  simp only [List.length_range] at hl
  simp only [List.getElem_range] at hj
  subst hj
  simp only [map_some, Option.some.injEq] at h
  omega
theorem shl_ok {x : Int} (h0 : 0 ≤ x) (h1 : x ≤ 1000) : decide (0 ≤ x ∧ x ≤ 1000000 ∧ Int.natAbs 1 < 2 ^ 64) = true := decide_eq_true ⟨h0, by omega, by decide⟩
theorem d2 : decide ((0 : Int) < 2) = true := by decide
theorem seqR {S ρ : Type} {f g : S → Option (TR S ρ)} {s s1 : S} (Q : Option (TR S ρ) → Prop) (h1 : f s = some (TR.nx s1)) (h2 : Q (g s1)) : Q (TT.tSeq f g s) := by
 unfold TT.tSeq; rw [h1]; exact h2
theorem seqX {S ρ : Type} {f g : S → Option (TR S ρ)} {s : S} {P : S → Prop} (Q : Option (TR S ρ) → Prop) (h1 : ∃ s1, f s = some (TR.nx s1) ∧ P s1) (h2 : ∀ s1, P s1 → Q (g s1)) : Q (TT.tSeq f g s) := by
 obtain ⟨s1, e, p⟩ := h1
 exact seqR Q e (h2 s1 p)
theorem loop_bindE2 {S α ρ γ γ' : Type} {put : S → α → S} {b : S → Option (TR S ρ)} {xs : List α} {s : S} {k : TR S ρ → Option γ'} {k2 : γ' → Option γ} {P : S → Prop} (Q : Option γ → Prop) (h : ∃ s', tLoop put b xs s = some (.nx s') ∧ P s') (hk : ∀ s', P s' → Q ((k (.nx s')).bind k2)) : Q (((tLoop put b xs s).bind k).bind k2) := by
 obtain ⟨a, e, p⟩ := h
 rw [e]; exact hk a p
noncomputable def e3 (l : L3) : Int × Int × Int := (((2 ^ l.1 : Nat) : Int), (l.2.1 : Int), (l.2.2 : Int))
noncomputable def lessF (c : Int × Int) (x : Int × Int × Int) : Int × Int := if (!(Builtin.bitAnd c.1 x.1 == 0)) = true then (Builtin.bitXor c.1 x.2.1, Builtin.bitXor c.2 x.2.2) else c
theorem less_fold : ∀ (ls : List L3) (x : Nat × Nat), (ls.map e3).foldl lessF ((x.1 : Int), (x.2 : Int)) = (((lsR3 ls x).1 : Int), ((lsR3 ls x).2 : Int)) := by
 intro ls
 induction ls with
 | nil => intro x; rfl
 | cons l ls ih =>
  intro x
  simp only [List.map_cons, List.foldl_cons, lsR3] at ih ⊢
  have e : lessF ((x.1 : Int), (x.2 : Int)) (e3 l) = (((if x.1.testBit l.1 = true then (x.1 ^^^ l.2.1, x.2 ^^^ l.2.2) else x).1 : Int), ((if x.1.testBit l.1 = true then (x.1 ^^^ l.2.1, x.2 ^^^ l.2.2) else x).2 : Int)) := by
   unfold lessF e3
   rw [lead_in]
   by_cases h : x.1.testBit l.1 = true
   ·simp only [if_pos h, bxor_nat]
   ·simp only [if_neg h]
  rw [e]
  exact ih _
theorem less_t (ls : List L3) (m q : Nat) : t_less_lines (ls.map e3, (m : Int), (q : Int), ()) = some ((((lsR3 ls (m, q)).1 : Int), ((lsR3 ls (m, q)).2 : Int)), ls.map e3, (m : Int), (q : Int), ()) := by
 have h := less_fold ls (m, q)
 unfold t_less_lines T_less_lines
 simp only [TT.tSeq, bind_some, map_some]
 rw [Option.bind_assoc]
 refine loop_bind (S := S_less_lines) (P := fun s => s.xlines = ls.map e3 ∧ (s.xmask, s.xmade) = (((lsR3 ls (m, q)).1 : Int), ((lsR3 ls (m, q)).2 : Int))) ?_ ?_
 ·rw [← h]
  obtain ⟨s', h1, h2, h3⟩ := loop_fold (S := S_less_lines) (ρ := Int × Int) (v := fun s => (s.xmask, s.xmade)) (f := lessF) (I := fun s => s.xlines = ls.map e3) (J := fun _ => True) (xs := ls.map e3) (s := ⟨ls.map e3, (m : Int), (q : Int), 0, 0, 0⟩)
   (put := fun s v => { xlines := s.xlines, xmask := s.xmask, xmade := s.xmade, xlead := v.fst, xother := v.snd.fst, xhow := v.snd.snd })
   (b := fun s => (Option.map (fun v => (v, s)) (if (Py.ok TT.rI (Builtin.bitAnd s.xmask s.xlead) && Py.ok TT.rI 0 && decide (min (Py.k TT.rI) (Py.k TT.rI) ≤ 50)) = true then some !Builtin.bitAnd s.xmask s.xlead == 0 else none)).bind fun p => if p.fst = true then some (TR.nx { xlines := p.snd.xlines, xmask := Builtin.bitXor p.snd.xmask p.snd.xother, xmade := Builtin.bitXor p.snd.xmade p.snd.xhow, xlead := p.snd.xlead, xother := p.snd.xother, xhow := p.snd.xhow }) else some (TR.nx p.snd))
   (fun s x _ hi _ => by
    dsimp only
    rw [ift okI]
    simp only [map_some, bind_some]
    unfold lessF
    cases hb : (!Builtin.bitAnd s.xmask x.1 == 0)
    ·simp only [Bool.false_eq_true, if_false]
     exact ⟨_, rfl, hi, rfl⟩
    ·simp only [if_true]
     exact ⟨_, rfl, hi, rfl⟩) (fun _ _ _ _ => trivial) rfl trivial
  exact ⟨s', h1, h2, h3⟩
 ·intro s' hs
  obtain ⟨a1, a2, a3, a4, a5, a6⟩ := s'
  obtain ⟨f1, f2⟩ := hs
  dsimp only at f1 f2
  subst f1
  simp only [bind_some, f2]
theorem e3_chg (m q : Nat) (l : L3) : e3 (chg3 m q l) = if (!(Builtin.bitAnd (e3 l).2.1 ((2 ^ m.log2 : Nat) : Int) == 0)) = true then ((e3 l).1, Builtin.bitXor (e3 l).2.1 (m : Int), Builtin.bitXor (e3 l).2.2 (q : Int)) else e3 l := by
 unfold e3
 rw [lead_in]
 unfold chg3
 by_cases h : l.2.1.testBit m.log2 = true
 ·simp only [if_pos h, bxor_nat]
 ·simp only [if_neg h]
theorem with_t {ls : List L3} (hl : ls.length ≤ 900) {m q : Nat} (h0 : m ≠ 0) (hm : m.log2 ≤ 900) : t_with_line (ls.map e3, (m : Int), (q : Int), ()) = some ((with3 ls m q).map e3, ls.map e3, (m : Int), (q : Int), ()) := by
 have hz : szC ([] : List (Int × Int × Int)).length = true := szc (by simp)
 have h1 : ∀ x : Int × Int × Int, szC ([x] : List (Int × Int × Int)).length = true := fun x => szc (by simp)
 unfold t_with_line T_with_line
 simp only [TT.tSeq, bind_some, map_some]
 rw [blen_nat h0, ift (shl_ok (by omega) (by omega)), Int.toNat_natCast, pow_nat]
 simp only [bind_some, map_some, ift hz]
 rw [Option.bind_assoc]
 refine loop_bind (S := S_with_line) (P := fun s => s.xlines = ls.map e3 ∧ s.xmask = (m : Int) ∧ s.xmade = (q : Int) ∧ s.xlead = ((2 ^ m.log2 : Nat) : Int) ∧ s.xchanged = (ls.map (chg3 m q)).map e3) ?_ ?_
 ·refine loop_ixP (S := S_with_line) (fun j s => s.xlines = ls.map e3 ∧ s.xmask = (m : Int) ∧ s.xmade = (q : Int) ∧ s.xlead = ((2 ^ m.log2 : Nat) : Int) ∧ s.xchanged = ((ls.take j).map (chg3 m q)).map e3) ⟨rfl, rfl, rfl, rfl, rfl⟩ ?_ (fun s h => ⟨h.1, h.2.1, h.2.2.1, h.2.2.2.1, by rw [h.2.2.2.2, List.take_of_length_le (by simp)]⟩)
  intro j s x hx hi
  obtain ⟨a1, a2, a3, a4, a5, a6, a7, a8⟩ := s
  obtain ⟨f1, f2, f3, f4, f5⟩ := hi
  dsimp only at f1 f2 f3 f4 f5
  cases f1.symm; cases f2.symm; cases f3.symm; cases f4.symm
  rw [List.getElem?_map] at hx
  rcases hk : ls[j]? with _ | l
  ·rw [hk] at hx; cases hx
  ·rw [hk] at hx
   simp only [map_some, Option.some.injEq] at hx
   subst hx
   have hjl := (List.getElem?_eq_some_iff.mp hk).1
   have ht : ((ls.take (j + 1)).map (chg3 m q)).map e3 = a5 ++ [e3 (chg3 m q l)] := by
    rw [f5, List.take_succ, hk]; simp
   have hlen : a5.length ≤ 1000 := by rw [f5]; simp; omega
   have ec := e3_chg m q l
   dsimp only
   rw [ift okI]
   simp only [map_some, bind_some]
   cases hb : (!Builtin.bitAnd (e3 l).2.1 ((2 ^ m.log2 : Nat) : Int) == 0)
   ·rw [hb] at ec
    simp only [Bool.false_eq_true, if_false] at ec ⊢
    rw [ift (ltc hlen)]
    exact ⟨_, rfl, rfl, rfl, rfl, rfl, by rw [ht, ec]⟩
   ·rw [hb] at ec
    simp only [if_true] at ec ⊢
    rw [ift (ltc hlen)]
    exact ⟨_, rfl, rfl, rfl, rfl, rfl, by rw [ht, ec]⟩
 ·intro s' hs
  obtain ⟨a1, a2, a3, a4, a5, a6, a7, a8⟩ := s'
  obtain ⟨f1, f2, f3, f4, f5⟩ := hs
  dsimp only at f1 f2 f3 f4 f5
  subst f1; subst f2; subst f3; subst f4; subst f5
  simp only [bind_some, ift (h1 _), map_some]
  rw [ift (szc (by simp; omega))]
  simp only [bind_some, map_some]
  congr 1
  unfold with3
  rw [List.map_append]
  rfl
noncomputable def mk (v : List Int) : Nat := (v.map fun c => 2 ^ c.toNat).sum
theorem maskP_mk : ∀ v, maskP v = (mk v : Int) := by
 intro v
 induction v with
 | nil => rfl
 | cons c v ih =>
  have e1 : maskP (c :: v) = 1 * 2 ^ c.toNat + maskP v := by simp only [maskP, List.map_cons, List.sum_cons]
  have e2 : mk (c :: v) = 2 ^ c.toNat + mk v := by simp only [mk, List.map_cons, List.sum_cons]
  rw [e1, e2, ih, pow_nat, Int.natCast_add]
noncomputable def VO (B : Nat) (v : List Int) : Prop := v.length ≤ 1000 ∧ (∀ c ∈ v, 0 ≤ c ∧ c ≤ 1000) ∧ mk v < 2 ^ B
theorem mask_t {B : Nat} {v : List Int} (h : VO B v) : t_mask_of (v, ()) = some ((mk v : Int), v, ()) := by
 obtain ⟨hl, hv, _⟩ := h
 unfold t_mask_of T_mask_of
 simp only [TT.tSeq, bind_some, map_some]
 rw [ift (szc hl), lc_map (f := fun c => (1 : Int) * 2 ^ c.toNat) (fun _ _ => rfl) (fun c hc => by rw [ift (shl_ok (hv c hc).1 (hv c hc).2)]; rfl)]
 simp only [bind_some, if_true, map_some]
 have e : (v.map fun c => (1 : Int) * 2 ^ c.toNat).sum = (mk v : Int) := maskP_mk v
 rw [e]
theorem lines3_snoc : ∀ (ms : List Nat) (ls : List L3) (n m : Nat), lines3 ls n (ms ++ [m]) = step3 (lines3 ls n ms) m (2 ^ (n + ms.length)) := by
 intro ms
 induction ms with
 | nil => intro ls n m; rfl
 | cons a ms ih => intro ls n m; simp only [List.cons_append, lines3, ih, List.length_cons]; congr 2; omega
theorem lines3_ok {B : Nat} : ∀ (ms : List Nat) (ls : List L3) (n : Nat), Bd B ls → (∀ m ∈ ms, m < 2 ^ B) → Bd B (lines3 ls n ms) ∧ (lines3 ls n ms).length ≤ ls.length + ms.length := by
 intro ms
 induction ms with
 | nil => intro ls n h _; exact ⟨h, by simp [lines3]⟩
 | cons m ms ih =>
  intro ls n h hm
  have h1 := ih (step3 ls m (2 ^ n)) (n + 1) (step3_bd h (hm m (by simp))) fun x hx => hm x (by simp [hx])
  have h2 := step3_len ls m (2 ^ n)
  refine ⟨h1.1, ?_⟩
  simp only [lines3, List.length_cons]
  omega
theorem enT_get {α : Type} : ∀ (xs : List α) (n j : Nat), (enT n xs)[j]? = (xs[j]?).map fun x => (((n + j : Nat) : Int), x) := by
 intro xs
 induction xs with
 | nil => intro n j; simp [enT]
 | cons x xs ih =>
  intro n j
  cases j with
  | zero => simp [enT]
  | succ j => simp only [enT, List.getElem?_cons_succ, ih]; rw [show n + 1 + j = n + (j + 1) by omega]
noncomputable def LSt (vs : List (List Int)) (ls : List L3) (o : Option (TR S_lines_of (List (Int × Int × Int)))) : Prop := ∃ s : S_lines_of, o = some (TR.nx s) ∧ s.xviews = vs ∧ s.xlines = ls.map e3
theorem lines_t {B : Nat} (hB : B ≤ 900) {vs : List (List Int)} (hl : vs.length ≤ 800) (hv : ∀ v ∈ vs, VO B v) : t_lines_of (vs, ()) = some ((lines3 [] 0 (vs.map mk)).map e3, vs, ()) := by
 have hz : szC ([] : List (Int × Int × Int)).length = true := szc (by simp)
 have hms : ∀ m ∈ vs.map mk, m < 2 ^ B := fun m hm => by obtain ⟨v, h, rfl⟩ := List.mem_map.mp hm; exact (hv v h).2.2
 unfold t_lines_of T_lines_of
 simp only [TT.tSeq, bind_some, map_some, ift hz]
 rw [Option.bind_assoc]
 refine loop_bind (S := S_lines_of) (P := fun s => s.xviews = vs ∧ s.xlines = (lines3 [] 0 (vs.map mk)).map e3) ?_ ?_
 ·refine loop_ixP (S := S_lines_of) (fun j s => s.xviews = vs ∧ s.xlines = (lines3 [] 0 ((vs.map mk).take j)).map e3) ⟨rfl, rfl⟩ ?_ (fun s h => ⟨h.1, by rw [h.2, List.take_of_length_le (by rw [enT_len]; simp)]⟩)
  intro j s x hx hi
  obtain ⟨a1, a2, a3, a4, a5⟩ := s
  obtain ⟨f1, f2⟩ := hi
  dsimp only at f1 f2
  cases f1.symm; cases f2.symm
  rw [enT_get] at hx
  rcases hk : vs[j]? with _ | v
  ·rw [hk] at hx; cases hx
  ·rw [hk] at hx
   simp only [map_some, Option.some.injEq, Nat.zero_add] at hx
   subst hx
   have hjl := (List.getElem?_eq_some_iff.mp hk).1
   have hvo := hv v (List.mem_of_getElem? hk)
   have hk2 : (vs.map mk)[j]? = some (mk v) := by rw [List.getElem?_map, hk]; rfl
   have hlt : ((vs.map mk).take j).length = j := by simp; omega
   have et : (vs.map mk).take (j + 1) = (vs.map mk).take j ++ [mk v] := by rw [List.take_succ, hk2]; rfl
   have ok := lines3_ok (B := B) ((vs.map mk).take j) [] 0 (fun l h => by cases h) (fun m hm => hms m (List.mem_of_mem_take hm))
   rw [et, lines3_snoc, hlt, Nat.zero_add]
   generalize lines3 [] 0 ((vs.map mk).take j) = ls at ok ⊢
   have hll : ls.length ≤ 800 := by have := ok.2; simp only [List.length_nil] at this; omega
   show LSt vs (step3 ls (mk v) (2 ^ j)) _
   refine seqR _ (s1 := ⟨vs, ls.map e3, (j : Int), v, (((lsR3 ls (mk v, 2 ^ j)).1 : Int), ((lsR3 ls (mk v, 2 ^ j)).2 : Int))⟩) (by
    dsimp only
    rw [mask_t hvo]
    simp only [map_some, bind_some]
    rw [ift (shl_ok (by omega) (by omega)), Int.toNat_natCast, pow_nat]
    simp only [map_some, bind_some]
    rw [less_t]
    rfl) ?_
   dsimp only
   rw [ift okI]
   simp only [map_some, bind_some]
   have hbd := lsR3_bd ok.1 (x := (mk v, 2 ^ j)) hvo.2.2
   by_cases h0 : (lsR3 ls (mk v, 2 ^ j)).1 = 0
   ·have es : step3 ls (mk v) (2 ^ j) = ls := by unfold step3; rw [if_neg (by simpa using h0)]
    rw [h0, es]
    exact ⟨_, rfl, rfl, rfl⟩
   ·have es : step3 ls (mk v) (2 ^ j) = with3 ls (lsR3 ls (mk v, 2 ^ j)).1 (lsR3 ls (mk v, 2 ^ j)).2 := by unfold step3; rw [if_pos h0]
    have en : (!(((lsR3 ls (mk v, 2 ^ j)).1 : Int) == 0)) = true := by
     rw [Bool.not_eq_true', beq_eq_false_iff_ne]; omega
    have hlg := log2_lt h0 hbd
    rw [es, en, if_pos rfl, with_t (by omega) h0 (by omega)]
    exact ⟨_, rfl, rfl, rfl⟩
 ·intro s' hs
  obtain ⟨a1, a2, a3, a4, a5⟩ := s'
  obtain ⟨f1, f2⟩ := hs
  dsimp only at f1 f2
  subst f1; subst f2
  rfl
theorem rank_t {B : Nat} (hB : B ≤ 900) {vs : List (List Int)} (hl : vs.length ≤ 800) (hv : ∀ v ∈ vs, VO B v) : t_rank_of (vs, ()) = some (((rk (vs.map mk) : Nat) : Int), vs, ()) := by
 unfold t_rank_of T_rank_of
 simp only [lines_t hB hl hv, bind_some, map_some, List.length_map, lines3_len]
theorem loopB_pure {S ρ α : Type} {f : α → S → S} : ∀ (xs : List α) (s : S), tLoopB (ρ := ρ) (fun x s => some (TR.nx (f x s))) xs s = some (TR.nx (xs.foldl (fun s x => f x s) s)) := by
 intro xs
 induction xs with
 | nil => intro s; rfl
 | cons x xs ih => intro s; simp only [tLoopB, bind_some, ih, List.foldl_cons]
theorem lawRed_int : ∀ (rows : List Nat) (m : Nat), (rows.map fun (r : Nat) => (r : Int)).foldl (fun (c r : Int) => if Builtin.bitXor c r < c then Builtin.bitXor c r else c) (m : Int) = (lawRed rows m : Int) := by
 intro rows
 induction rows with
 | nil => intro m; rfl
 | cons r rows ih =>
  intro m
  simp only [List.map_cons, List.foldl_cons, lawRed] at ih ⊢
  rw [bxor_nat]
  by_cases h : m ^^^ r < m
  ·rw [if_pos (by omega), Nat.min_eq_right (by omega)]; exact ih _
  ·rw [if_neg (by omega), Nat.min_eq_left (by omega)]; exact ih _
end LW
namespace LW
open PySem L2 DD TT RK
noncomputable def LRt (ms : List Int) (rows : List Nat) (o : Option (TR S_lrank Int)) : Prop := ∃ s : S_lrank, o = some (TR.nx s) ∧ s.ymasks_here = ms ∧ s.yrows = rows.map fun (r : Nat) => (r : Int)
theorem lstep_len : ∀ (ms rows : List Nat), (ms.foldl lawStep rows).length ≤ rows.length + ms.length := by
 intro ms
 induction ms with
 | nil => intro rows; simp
 | cons m ms ih =>
  intro rows
  have h := ih (lawStep rows m)
  have : (lawStep rows m).length ≤ rows.length + 1 := by unfold lawStep; split <;> simp
  simp only [List.foldl_cons, List.length_cons]
  omega
theorem lrank_t {ms : List Nat} (hl : ms.length ≤ 900) : t_lrank (ms.map fun (m : Nat) => (m : Int), ()) = some (((rk ms : Nat) : Int), ms.map fun (m : Nat) => (m : Int), ()) := by
 have hz : szC ([] : List Int).length = true := szc (by simp)
 unfold t_lrank T_lrank
 simp only [TT.tSeq, bind_some, map_some, ift hz]
 rw [Option.bind_assoc]
 refine loop_bind (S := S_lrank) (P := fun s => s.ymasks_here = (ms.map fun (m : Nat) => (m : Int)) ∧ s.yrows = (ms.foldl lawStep []).map fun (r : Nat) => (r : Int)) ?_ ?_
 ·refine loop_ixP (S := S_lrank) (fun j s => s.ymasks_here = (ms.map fun (m : Nat) => (m : Int)) ∧ s.yrows = ((ms.take j).foldl lawStep []).map fun (r : Nat) => (r : Int)) ⟨rfl, rfl⟩ ?_ (fun s h => ⟨h.1, by rw [h.2, List.take_of_length_le (by simp)]⟩)
  intro j s x hx hi
  obtain ⟨a1, a2, a3⟩ := s
  obtain ⟨f1, f2⟩ := hi
  dsimp only at f1 f2
  cases f1.symm; cases f2.symm
  rw [List.getElem?_map] at hx
  rcases hk : ms[j]? with _ | m
  ·rw [hk] at hx; cases hx
  ·rw [hk] at hx
   simp only [map_some, Option.some.injEq] at hx
   subst hx
   have hjl := (List.getElem?_eq_some_iff.mp hk).1
   have et : (ms.take (j + 1)).foldl lawStep [] = lawStep ((ms.take j).foldl lawStep []) m := by rw [List.take_succ, hk]; simp
   have hlen := lstep_len (ms.take j) []
   have hlt : (ms.take j).length = j := by simp; omega
   rw [hlt] at hlen
   rw [et]
   generalize (ms.take j).foldl lawStep [] = rows at hlen ⊢
   show LRt _ (lawStep rows m) _
   refine seqR _ (s1 := ⟨ms.map fun (m : Nat) => (m : Int), rows.map fun (r : Nat) => (r : Int), (lawRed rows m : Int)⟩) (by
    dsimp only
    rw [loopB_pure (f := fun x9 (s : S_lrank) => (⟨s.ymasks_here, s.yrows, if Builtin.bitXor s.ymask_here x9 < s.ymask_here then Builtin.bitXor s.ymask_here x9 else s.ymask_here⟩ : S_lrank))]
    simp only [map_some, TR.upd]
    have key : ∀ (xs : List Int) (s : S_lrank), xs.foldl (fun (s : S_lrank) x9 => (⟨s.ymasks_here, s.yrows, if Builtin.bitXor s.ymask_here x9 < s.ymask_here then Builtin.bitXor s.ymask_here x9 else s.ymask_here⟩ : S_lrank)) s = ⟨s.ymasks_here, s.yrows, xs.foldl (fun c r => if Builtin.bitXor c r < c then Builtin.bitXor c r else c) s.ymask_here⟩ := by
     intro xs
     induction xs with
     | nil => intro s; rfl
     | cons x xs ih => intro s; simp only [List.foldl_cons, ih]
    rw [key]
    dsimp only
    rw [lawRed_int]) ?_
   dsimp only
   by_cases h0 : lawRed rows m > 0
   ·have es : lawStep rows m = rows ++ [lawRed rows m] := by unfold lawStep; rw [if_pos h0]
    rw [show decide ((0 : Int) < (lawRed rows m : Int)) = true from decide_eq_true (by omega), if_pos rfl, es]
    rw [ift (ltc (by simp at hlen ⊢; omega))]
    exact ⟨_, rfl, rfl, by simp⟩
   ·have es : lawStep rows m = rows := by unfold lawStep; rw [if_neg h0]
    rw [show decide ((0 : Int) < (lawRed rows m : Int)) = false from decide_eq_false (by omega), es]
    exact ⟨_, rfl, rfl, rfl⟩
 ·intro s' hs
  obtain ⟨a1, a2, a3⟩ := s'
  obtain ⟨f1, f2⟩ := hs
  dsimp only at f1 f2
  subst f1; subst f2
  simp only [bind_some, List.length_map, law_rank]
  rfl
end LW
namespace LW
open PySem L2 DD TT RK
theorem mk_S2 (q : Int → Bool) (n : Nat) : mk ((rng 0 n).filter q) = S2 (fun k => q (k : Int)) n := by
 have h := mask_S2 q n
 rw [maskP_mk] at h
 omega
noncomputable def gb (g : Nat) (k : Int) : Bool := g.testBit k.toNat
theorem names_t {n : Nat} (hn : n ≤ 900) (g : Nat) : t_names_in ((n : Int), (g : Int), ()) = some ((rng 0 n).filter (gb g), (n : Int), (g : Int), ()) := by
 unfold t_names_in T_names_in
 simp only [TT.tSeq, bind_some, map_some, ift (rok (z := (n : Int)) (by omega) (by omega))]
 rw [ift (szc (by rw [rng_len0]; omega)), lc_filter (p := gb g) (f := fun x => x) (fun x hx => by
  obtain ⟨k, rfl, hk⟩ := rng_mem hx
  rw [ift (shl_ok (by omega) (by omega))]
  simp only [bind_some, Int.toNat_natCast, map_some, ift okI]
  rw [pow_nat, lead_in]
  rfl) (fun x _ _ => rfl)]
 simp only [List.map_id', map_some, bind_some]
structure WG (B n : Nat) (h : Int × List (List (List Int))) : Prop where
 hB : B ≤ 900
 len : h.2.length = n
 n4 : 1 ≤ n ∧ n ≤ 4
 row : ∀ r ∈ h.2, r.length ≤ 20 ∧ ∀ v ∈ r, VO B v
noncomputable def rowOf (h : Int × List (List (List Int))) (k : Int) : List (List Int) := h.2.getD k.toNat []
theorem WG.at {B n : Nat} {h : Int × List (List (List Int))} (w : WG B n h) {k : Nat} (hk : k < n) : atI h.2 (k : Int) = some (rowOf h k) ∧ (rowOf h k).length ≤ 20 ∧ ∀ v ∈ rowOf h k, VO B v := by
 have hl := w.len
 have hk2 : k < h.2.length := by omega
 have e : rowOf h k = h.2[k] := by simp [rowOf, List.getD, hk2]
 rw [e]
 exact ⟨at_nat hk2, w.row _ (List.getElem_mem hk2)⟩
noncomputable def VW (h : Int × List (List (List Int))) (n : Nat) (g : Nat) : List (List Int) := ((rng 0 n).filter (gb g)).flatMap (rowOf h)
theorem VW_ok {B n : Nat} {h : Int × List (List (List Int))} (w : WG B n h) {g : Nat} : ∀ v ∈ VW h n g, VO B v := by
 intro v hv
 obtain ⟨k, hk, hv⟩ := List.mem_flatMap.mp hv
 obtain ⟨j, rfl, hj⟩ := rng_mem (List.mem_filter.mp hk).1
 exact (w.at (by omega)).2.2 v hv
theorem take_flat {α β : Type} {xs : List α} {f : α → List β} {j : Nat} {x : α} (h : xs[j]? = some x) : (xs.take (j + 1)).flatMap f = (xs.take j).flatMap f ++ f x := by
 rw [List.take_succ, h, List.flatMap_append]
 simp
theorem views_t {B n : Nat} {h : Int × List (List (List Int))} (w : WG B n h) (g : Nat) : t_views_of (h, (g : Int), ()) = some (VW h n g, h, (g : Int), ()) ∧ (VW h n g).length ≤ 80 := by
 have h0 : szC ([] : List (List Int)).length = true := szc (by simp)
 have h4 := w.n4
 have hxl : ((rng 0 n).filter (gb g)).length ≤ 4 := by
  have := List.length_filter_le (gb g) (rng 0 n)
  rw [rng_len0] at this
  omega
 have hn := names_t (n := n) (by omega) g
 have key : ∃ s' : S_views_of, tLoop (ρ := List (List Int)) (fun (s : S_views_of) v => { xheap := s.xheap, xg := s.xg, xfound := s.xfound, xname := v }) (fun s => Option.map (fun p => TR.nx p.snd) ((Option.map (fun v => (v, s)) (atI s.xheap.snd s.xname)).bind fun p => if szC (p.snd.xfound.length + p.fst.length) = true then some ((), { xheap := p.snd.xheap, xg := p.snd.xg, xfound := p.snd.xfound ++ p.fst, xname := p.snd.xname }) else none)) ((rng 0 n).filter (gb g)) { xheap := h, xg := (g : Int), xfound := [], xname := 0 } = some (TR.nx s') ∧ s'.xheap = h ∧ s'.xg = (g : Int) ∧ s'.xfound = VW h n g ∧ s'.xfound.length ≤ 80 := by
  refine loop_ixP (S := S_views_of) (fun j s => s.xheap = h ∧ s.xg = (g : Int) ∧ s.xfound = (((rng 0 n).filter (gb g)).take j).flatMap (rowOf h) ∧ s.xfound.length ≤ 20 * j) ⟨rfl, rfl, rfl, Nat.le_refl _⟩ ?_ (fun s q => ⟨q.1, q.2.1, by rw [q.2.2.1, List.take_length]; rfl, by have := q.2.2.2; omega⟩)
  intro j s x hx hi
  obtain ⟨a1, a2, a3, a4⟩ := s
  obtain ⟨e1, e2, e3, e4⟩ := hi
  dsimp only at e1 e2 e3 e4
  subst e1; subst e2
  have hj := (List.getElem?_eq_some_iff.mp hx).1
  obtain ⟨k, rfl, hk⟩ := rng_mem (List.mem_filter.mp (List.mem_of_getElem? hx)).1
  obtain ⟨q1, q2, q3⟩ := w.at (k := k) (by omega)
  dsimp only
  rw [q1]
  simp only [map_some, bind_some]
  rw [ift (szc (by omega))]
  exact ⟨_, rfl, rfl, rfl, by rw [take_flat hx, ← e3], by simp; omega⟩
 obtain ⟨s', e, p1, p2, p3, p4⟩ := key
 obtain ⟨b1, b2, b3, b4⟩ := s'
 dsimp only at p1 p2 p3 p4
 subst p1; subst p2; subst p3
 refine ⟨?_, p4⟩
 unfold t_views_of T_views_of
 simp only [TT.tSeq, bind_some, map_some, ift h0]
 rw [w.len, hn]
 simp only [map_some, bind_some]
 rw [e]
 rfl
noncomputable def rg (h : Int × List (List (List Int))) (n g : Nat) : Nat := rk ((VW h n g).map mk)
noncomputable def tabP (h : Int × List (List (List Int))) (n : Nat) : List Int := (rng 1 ((2 ^ n : Nat) : Int)).map fun g => ((rg h n g.toNat : Nat) : Int)
theorem alln_t {n : Nat} (hn : n ≤ 900) : t_all_names ((n : Int), ()) = some (((2 ^ n : Nat) : Int) - 1, (n : Int), ()) := by
 unfold t_all_names T_all_names
 simp only [TT.tSeq, bind_some, map_some]
 rw [ift (shl_ok (by omega) (by omega)), Int.toNat_natCast, pow_nat]
 rfl
theorem rng1_mem {N : Nat} {x : Int} (h : x ∈ rng 1 (N : Int)) : ∃ k : Nat, x = (k : Int) ∧ 1 ≤ k ∧ k < N := by
 unfold rng at h
 obtain ⟨k, hk, rfl⟩ := List.mem_map.mp h
 rw [List.mem_range] at hk
 exact ⟨k + 1, by omega, by omega, by omega⟩
theorem rng1_len (N : Nat) : (rng 1 (N : Int)).length = N - 1 := by simp [rng]
theorem pow16 {n : Nat} (h : n ≤ 4) : 1 ≤ 2 ^ n ∧ 2 ^ n ≤ 16 := ⟨Nat.pow_pos (by decide), show 2 ^ n ≤ 2 ^ 4 from Nat.pow_le_pow_right (by decide) h⟩
theorem table_t {B n : Nat} {h : Int × List (List (List Int))} (w : WG B n h) : t_coin_table (h, ()) = some (tabP h n, h, ()) := by
 have h4 := w.n4
 have hp := pow16 h4.2
 have hB := w.hB
 unfold t_coin_table T_coin_table
 simp only [TT.tSeq, bind_some, map_some]
 rw [w.len, alln_t (by omega)]
 simp only [bind_some, map_some, Int.sub_add_cancel]
 rw [ift (show (rokC 1 && rokC ((2 ^ n : Nat) : Int)) = true by rw [rok (z := 1) (by omega) (by omega), rok (by omega) (by omega)]; rfl)]
 simp only [bind_some]
 rw [ift (szc (by rw [rng1_len]; omega)), lc_map (f := fun g => ((rg h n g.toNat : Nat) : Int)) (fun _ _ => rfl) (fun g hg => by
  obtain ⟨k, rfl, _, _⟩ := rng1_mem hg
  obtain ⟨q1, q2⟩ := views_t w k
  dsimp only
  rw [q1]
  simp only [bind_some, map_some]
  rw [rank_t hB (by omega) (VW_ok w)]
  rfl)]
 simp only [map_some, bind_some]
 rfl
end LW
namespace LW
open PySem L2 DD TT
theorem p18 : decide ((0 : Int) ≤ 18 ∧ (18 : Int) ≤ 1000000 ∧ Int.natAbs 10 < 2 ^ 64) = true := by decide
noncomputable def Drw (b : Int) (fs : List Int) : Prop := ∀ d ∈ fs, 0 ≤ d ∧ d < b
theorem Drw.snoc {b x : Int} {fs : List Int} (h : Drw b fs) (h0 : 0 ≤ x) (h1 : x < b) : Drw b (fs ++ [x]) := by
 intro d hd
 rw [List.mem_append, List.mem_singleton] at hd
 rcases hd with hd | rfl
 ·exact h d hd
 ·exact ⟨h0, h1⟩
theorem draws_t (c : Int) {n b : Int} (hn : 0 ≤ n ∧ n ≤ 100) (hb : 1 ≤ b ∧ b ≤ 1000000) : ∃ ds : List Int, t_ldraws (c, n, b, ()) = some (ds, c, n, b, ()) ∧ ds.length = n.toNat ∧ Drw b ds := by
 have h0 : szC ([] : List Int).length = true := szc (by simp)
 have db : decide (0 < b) = true := decide_eq_true (by omega)
 have fb : ∀ x, fdvC x b = true := fun x => fdvc (by
  refine decide_eq_true ⟨by omega, ?_⟩
  have h1 : b.natAbs < 2 ^ 64 := by omega
  have h2 := (Nat.log2_lt (n := b.natAbs) (k := 64) (by omega)).mpr h1
  omega)
 have f64 : ∀ x, fdvC x 64 = true := fun x => fdvc (by decide +kernel)
 have d5 : decide ((0 : Int) < 2147483629) = true := by decide
 have d3 : decide ((0 : Int) < 2147483587) = true := by decide
 have m1 : ∀ q : Int, mulN q 69621 = true := fun q => mulc (by omega)
 have m2 : ∀ q : Int, mulN 7919 q = true := fun q => mulc (by omega)
 have m3 : ∀ q : Int, mulN 17 q = true := fun q => mulc (by omega)
 have m4 : ∀ q : Int, mulN (q % 2147483629) (q % 2147483629) = true := fun q => mulc (by omega)
 have z0 : ∀ q : Int, 0 ≤ q % b := fun q => Int.emod_nonneg q (by omega)
 have z1 : ∀ q : Int, q % b < b := fun q => Int.emod_lt_of_pos q (by omega)
 unfold t_ldraws T_ldraws
 simp only [TT.tSeq, bind_some, map_some, ift h0, ift (rok (z := n) (by omega) (by omega)), Option.bind_assoc]
 refine loop_bindE (S := S_ldraws) (P := fun s => s.ycell = c ∧ s.ymany = n ∧ s.ybase = b ∧ s.yfound.length = n.toNat ∧ Drw b s.yfound) (fun o => ∃ ds : List Int, o = some (ds, c, n, b, ()) ∧ ds.length = n.toNat ∧ Drw b ds) ?_ fun s' h => ?_
 ·refine loop_ixP (S := S_ldraws) (fun k s => s.ycell = c ∧ s.ymany = n ∧ s.ybase = b ∧ s.yfound.length = k ∧ Drw b s.yfound) ⟨rfl, rfl, rfl, rfl, fun d hd => by cases hd⟩ ?_ (fun s' h => ⟨h.1, h.2.1, h.2.2.1, by rw [h.2.2.2.1]; simp [rng], h.2.2.2.2⟩)
  intro k s x hx hi
  obtain ⟨a1, a2, a3, fs, lf, k0, nb⟩ := s
  obtain ⟨e1, e2, e3, hlen, hd⟩ := hi
  obtain ⟨hx, hk⟩ := rng_get0 hx
  dsimp only at e1 e2 e3 hlen hd
  cases e1.symm; cases e2.symm; cases e3.symm
  simp only [TT.tSeq, bind_some, map_some, ift p18, ift okI]
  cases hA : decide ((10 : Int) ^ Int.toNat 18 ≤ if c < 0 then -c else c)
  ·simp only [Bool.false_eq_true, if_false, bind_some, map_some, ift (m1 _), ift (m2 _), ift (m3 _), ift (m4 _), ift d5, ift d3, ift (f64 _), ift db, ift (ltc (n := fs.length) (by omega))]
   exact ⟨_, rfl, rfl, rfl, rfl, by simp [hlen], hd.snoc (z0 _) (z1 _)⟩
  ·simp only [if_true, bind_some, map_some]
   cases hB : !(lf == 0)
   ·simp only [Bool.false_eq_true, if_false, bind_some, map_some, ift (m1 _), ift (m2 _), ift (m3 _), ift (m4 _), ift d5, ift d3, ift (f64 _), ift db, ift (ltc (n := fs.length) (by omega))]
    exact ⟨_, rfl, rfl, rfl, rfl, by simp [hlen], hd.snoc (z0 _) (z1 _)⟩
   ·simp only [if_true, bind_some, map_some]
    cases hC : !(lf == -1)
    ·simp only [Bool.false_eq_true, if_false, bind_some, map_some, ift (m1 _), ift (m2 _), ift (m3 _), ift (m4 _), ift d5, ift d3, ift (f64 _), ift db, ift (ltc (n := fs.length) (by omega))]
     exact ⟨_, rfl, rfl, rfl, rfl, by simp [hlen], hd.snoc (z0 _) (z1 _)⟩
    ·simp only [if_true, bind_some, map_some, ift db, ift (fb _), ift (ltc (n := fs.length) (by omega))]
     exact ⟨_, rfl, rfl, rfl, rfl, by simp [hlen], hd.snoc (z0 _) (z1 _)⟩
 ·exact ⟨s'.yfound, by simp only [bind_some, h.1, h.2.1, h.2.2.1], h.2.2.2.1, h.2.2.2.2⟩
end LW
namespace LW
open PySem L2 DD TT RK
theorem fd_pow {y : Int} {k : Nat} (h : k ≤ 1000) : fdvC y (1 * 2 ^ k) = true := fdvc (by
 refine decide_eq_true ⟨by rw [Int.one_mul]; exact Int.pow_pos (by decide), ?_⟩
 rw [Int.one_mul, show ((2 : Int) ^ k).natAbs = 2 ^ k by simp [Int.natAbs_pow], Nat.log2_two_pow]
 omega)
theorem r41 : rokC 41 = true := rok (by omega) (by omega)
theorem bits_t (m : Int) : t_lbits (m, ()) = some (bitsP m, m, ()) := by
 unfold t_lbits T_lbits
 simp only [TT.tSeq, bind_some, map_some, ift r41]
 rw [ift (szc (by rw [rng_len0]; decide)), lc_filter (p := bt m) (f := fun x => x) (fun x hx => by
  obtain ⟨k, rfl, hk⟩ := rng_mem hx
  rw [ift (shl_ok (by omega) (by omega))]
  simp only [bind_some, Int.toNat_natCast]
  rw [ift (fd_pow (by omega))]
  simp only [bind_some, ift d2, map_some, ift okI]
  rfl) (fun x _ _ => rfl)]
 simp only [List.map_id', map_some, bind_some]
 rfl
theorem lmask_t {B : Nat} {v : List Int} (h : VO B v) : t_lmask (v, ()) = some ((mk v : Int), v, ()) := by
 obtain ⟨hl, hv, _⟩ := h
 unfold t_lmask T_lmask
 simp only [TT.tSeq, bind_some, map_some]
 rw [ift (szc hl), lc_map (f := fun c => (1 : Int) * 2 ^ c.toNat) (fun _ _ => rfl) (fun c hc => by rw [ift (shl_ok (hv c hc).1 (hv c hc).2)]; rfl)]
 simp only [bind_some, if_true, map_some]
 have e : (v.map fun c => (1 : Int) * 2 ^ c.toNat).sum = (mk v : Int) := maskP_mk v
 rw [e]
theorem vo_bits {m M : Nat} (hM : M ≤ 41) (hm : m < 2 ^ M) : VO M (bitsP m) := by
 refine ⟨?_, ?_, ?_⟩
 ·have := List.length_filter_le (bt m) (rng 0 41)
  rw [rng_len0] at this
  unfold bitsP
  exact Nat.le_trans this (by decide)
 ·intro c hc
  obtain ⟨k, rfl, hk⟩ := rng_mem (List.mem_filter.mp hc).1
  omega
 ·have e : mk (bitsP m) = m := by
   have h1 := mk_S2 (bt m) 41
   have h2 : bitsP (m : Int) = (rng 0 ((41 : Nat) : Int)).filter (bt m) := rfl
   rw [h2, h1]
   apply Nat.eq_of_testBit_eq
   intro j
   rw [S2_bit, bt_nat]
   by_cases h : j < 41
   ·simp [h]
   ·rw [Nat.testBit_lt_two_pow (Nat.lt_of_lt_of_le hm (Nat.pow_le_pow_right (by decide) (by omega)))]
    simp
  rw [e]; exact hm
theorem cell_t (ns : List Int) {k : Int} (hk : 0 ≤ k) : ∃ v, t_lcell_at (ns, k, ()) = some (v, ns, k, ()) := by
 unfold t_lcell_at T_lcell_at
 simp only [TT.tSeq, bind_some, map_some]
 cases hd : decide (k < (ns.length : Int))
 ·simp only [Bool.false_eq_true, if_false, bind_some]
  exact ⟨_, rfl⟩
 ·have h1 := of_decide_eq_true hd
  obtain ⟨j, rfl⟩ : ∃ j : Nat, k = (j : Int) := ⟨k.toNat, by omega⟩
  simp only [if_true, at_nat (show j < ns.length by omega), map_some, bind_some]
  exact ⟨_, rfl⟩
noncomputable def HOk (c : Int) (n mo : Nat) (ds : List Int) (M : Nat) (s : S_lheap) : Prop := s.ycell = c ∧ s.yn = (n : Int) ∧ s.ymost = (mo : Int) ∧ s.ydigits = ds ∧ s.ymany = (M : Int)
noncomputable def HSt (c : Int) (n mo : Nat) (ds : List Int) (M j : Nat) (o : Option (TR S_lheap (Int × List (List (List Int))))) : Prop := ∃ s : S_lheap, o = some (TR.nx s) ∧ HOk c n mo ds M s ∧ s.yviews.length = j ∧ ∀ r ∈ s.yviews, r.length ≤ 3 ∧ ∀ v ∈ r, VO M v
theorem heap_t (c : Int) {n mo : Nat} (hn : 1 ≤ n ∧ n ≤ 4) (hmo : mo ≤ 12) : ∃ h M, t_lheap (c, (n : Int), (mo : Int), ()) = some (h, c, (n : Int), (mo : Int), ()) ∧ h.1 = ((M : Nat) : Int) ∧ M ≤ 12 ∧ WG M n h ∧ ∀ r ∈ h.2, r.length ≤ 3 := by
 obtain ⟨ds, hds, hl, hdr⟩ := draws_t c (n := 18) (b := 65536) (by omega) (by omega)
 have hl : ds.length = 18 := hl
 have h0 : szC ([] : List (List (List Int))).length = true := szc (by simp)
 have h1 : szC ([] : List (List Int)).length = true := szc (by simp)
 have at_ : ∀ k : Nat, k < 18 → ∃ d : Nat, atI ds (k : Int) = some (d : Int) := fun k hk => by
  have h := hdr _ (List.getElem_mem (show k < ds.length by omega))
  exact ⟨(ds[k]'(by omega)).toNat, by rw [at_nat (by omega)]; congr 1; omega⟩
 obtain ⟨d0, e0⟩ := at_ 0 (by omega)
 have e0 : atI ds 0 = some (d0 : Int) := e0
 have d13 : decide ((0 : Int) < (mo : Int) + 1) = true := decide_eq_true (by omega)
 have d4 : decide ((0 : Int) < 4) = true := by decide
 have z0 := Int.emod_nonneg (d0 : Int) (show (mo : Int) + 1 ≠ 0 by omega)
 have z1 := Int.emod_lt_of_pos (d0 : Int) (show (0 : Int) < (mo : Int) + 1 by omega)
 obtain ⟨M, hM⟩ : ∃ M : Nat, (d0 : Int) % ((mo : Int) + 1) = (M : Int) := ⟨((d0 : Int) % ((mo : Int) + 1)).toNat, by omega⟩
 rw [hM] at z0 z1
 have hM12 : M ≤ 12 := by omega
 have d16 : decide ((16 : Int) < (M : Int)) = false := decide_eq_false (by omega)
 have dp : decide ((0 : Int) < 1 * 2 ^ M) = true := decide_eq_true (by rw [Int.one_mul]; exact Int.pow_pos (by decide))
 unfold t_lheap T_lheap
 simp only [TT.tSeq, hds, bind_some, map_some, e0, ift d13, hM, ift h0, ift (rok (z := (n : Int)) (by omega) (by omega))]
 refine loop_bindE2 (S := S_lheap) (P := fun s => HOk c n mo ds M s ∧ s.yviews.length = n ∧ ∀ r ∈ s.yviews, r.length ≤ 3 ∧ ∀ v ∈ r, VO M v) (fun o => ∃ h M, o = some (h, c, (n : Int), (mo : Int), ()) ∧ h.1 = ((M : Nat) : Int) ∧ M ≤ 12 ∧ WG M n h ∧ ∀ r ∈ h.2, r.length ≤ 3) ?_ ?_
 ·refine loop_ixP (S := S_lheap) (fun j s => HOk c n mo ds M s ∧ s.yviews.length = j ∧ ∀ r ∈ s.yviews, r.length ≤ 3 ∧ ∀ v ∈ r, VO M v) ⟨⟨rfl, rfl, rfl, rfl, rfl⟩, rfl, fun r hr => by cases hr⟩ ?_ (fun s q => ⟨q.1, by rw [q.2.1, rng_len0]; omega, q.2.2⟩)
  intro j s x hx hi
  obtain ⟨a1, a2, a3, a4, a5, vs, a7, a8, a9, a10, a11⟩ := s
  obtain ⟨⟨f1, f2, f3, f4, f5⟩, f6, f7⟩ := hi
  dsimp only at f1 f2 f3 f4 f5 f6 f7
  cases f1.symm; cases f2.symm; cases f3.symm; cases f4.symm; cases f5.symm
  obtain ⟨rfl, hj⟩ := rng_get0 hx
  show HSt c n mo ds M (j + 1) _
  refine seqR _ (by simp only [ift h1, map_some]; rfl) ?_
  obtain ⟨dr, er⟩ := at_ (1 + j) (by omega)
  rw [show ((1 + j : Nat) : Int) = 1 + (j : Int) by omega] at er
  refine seqX (S := S_lheap) (P := fun s => HOk c n mo ds M s ∧ s.yviews = vs ∧ s.yrow.length ≤ 3 ∧ ∀ v ∈ s.yrow, VO M v) _ (by
   simp only [er, bind_some, ift d4, map_some]
   rw [ift (rok (by omega) (by omega))]
   simp only [bind_some]
   refine loop_ixP (S := S_lheap) (fun i s => HOk c n mo ds M s ∧ s.yviews = vs ∧ s.yname = (j : Int) ∧ s.yrow.length = i ∧ ∀ v ∈ s.yrow, VO M v) ⟨⟨rfl, rfl, rfl, rfl, rfl⟩, rfl, rfl, rfl, fun r hr => by cases hr⟩ ?_ (fun s q => ⟨q.1, q.2.1, by rw [q.2.2.2.1, rng_len0]; omega, q.2.2.2.2⟩)
   intro i s y hy hi
   obtain ⟨a1, a2, a3, a4, a5, a6, a7, row, a9, a10, a11⟩ := s
   obtain ⟨⟨f1, f2, f3, f4, f5⟩, f8, f9, f10, f11⟩ := hi
   dsimp only at f1 f2 f3 f4 f5 f8 f9 f10 f11
   cases f1.symm; cases f2.symm; cases f3.symm; cases f4.symm; cases f5.symm; cases f8.symm; cases f9.symm
   obtain ⟨rfl, hi3⟩ := rng_get0 hy
   obtain ⟨dd, ed⟩ := at_ (5 + 3 * j + i) (by omega)
   rw [show ((5 + 3 * j + i : Nat) : Int) = 5 + 3 * (j : Int) + (i : Int) by omega] at ed
   have hv : VO M (bitsP ((dd : Int) % (1 * 2 ^ M))) := by
    have e : (dd : Int) % (1 * 2 ^ M) = ((dd % 2 ^ M : Nat) : Int) := by rw [pow_nat]; rfl
    rw [e]
    exact vo_bits (by omega) (Nat.mod_lt _ (Nat.pow_pos (by decide)))
   simp only [TT.tSeq, ift (show mulN 3 (j : Int) = true from mulc (by omega)), bind_some, map_some, ed, ift (shl_ok (x := (M : Int)) (by omega) (by omega)), Int.toNat_natCast, ift dp, d16, Bool.false_eq_true, if_false, bits_t, ift (ltc (n := row.length) (by omega))]
   refine ⟨_, rfl, ⟨rfl, rfl, rfl, rfl, rfl⟩, rfl, rfl, by simp [f10], ?_⟩
   intro v hv2
   rw [List.mem_append, List.mem_singleton] at hv2
   rcases hv2 with hv2 | rfl
   ·exact f11 v hv2
   ·exact hv) ?_
  intro s hs
  obtain ⟨a1, a2, a3, a4, a5, a6, a7, row, a9, a10, a11⟩ := s
  obtain ⟨⟨f1, f2, f3, f4, f5⟩, f8, f9, f10⟩ := hs
  dsimp only at f1 f2 f3 f4 f5 f8 f9 f10
  cases f1.symm; cases f2.symm; cases f3.symm; cases f4.symm; cases f5.symm; cases f8.symm
  refine ⟨_, (by rw [ift (ltc (show vs.length ≤ 1000 by omega))]; rfl), ⟨rfl, rfl, rfl, rfl, rfl⟩, by simp [f6], ?_⟩
  intro r hr
  dsimp only at hr
  rw [List.mem_append, List.mem_singleton] at hr
  rcases hr with hr | rfl
  ·exact f7 r hr
  ·exact ⟨f9, f10⟩
 ·intro s' hs
  obtain ⟨a1, a2, a3, a4, a5, a6, a7, row, a9, a10, a11⟩ := s'
  obtain ⟨⟨f1, f2, f3, f4, f5⟩, f6, f7⟩ := hs
  dsimp only at f1 f2 f3 f4 f5 f6 f7
  subst f1; subst f2; subst f3; subst f5
  exact ⟨_, M, rfl, rfl, hM12, ⟨by omega, f6, hn, fun r hr => ⟨by have := (f7 r hr).1; omega, (f7 r hr).2⟩⟩, fun r hr => (f7 r hr).1⟩
theorem copy_t {B n : Nat} {h : Int × List (List (List Int))} (w : WG B n h) : t_lcopy (h, ()) = some (h, h, ()) := by
 unfold t_lcopy T_lcopy
 simp only [TT.tSeq, bind_some, map_some]
 have hl := w.len
 have h4 := w.n4
 rw [ift (szc (by omega)), lc_map (f := fun x => x) (fun _ _ => rfl) (fun r hr => by
  rw [ift (szc (Nat.le_trans (w.row r hr).1 (by decide))), lc_map (f := fun x => x) (fun _ _ => rfl) (fun _ _ => rfl)]
  simp only [bind_some, if_true, List.map_id'])]
 simp only [List.map_id', map_some, bind_some]
noncomputable def MI (ms : List Nat) : List Int := ms.map fun (m : Nat) => (m : Int)
noncomputable def MW (h : Int × List (List (List Int))) (n g : Nat) : List Nat := (VW h n g).map mk
theorem masks_t {B n : Nat} {h : Int × List (List (List Int))} (w : WG B n h) (g : Nat) : t_lmasks (h, (g : Int), ()) = some (MI (MW h n g), h, (g : Int), ()) := by
 have h0 : szC ([] : List Int).length = true := szc (by simp)
 have h4 := w.n4
 have hl := w.len
 unfold t_lmasks T_lmasks
 simp only [TT.tSeq, bind_some, map_some, ift h0]
 rw [ift (rok (by omega) (by omega))]
 simp only [bind_some]
 refine loop_bindE2 (S := S_lmasks) (P := fun s => s.yheap_here = h ∧ s.yg = (g : Int) ∧ s.yfound = MI (MW h n g)) (fun o => o = some (MI (MW h n g), h, (g : Int), ())) ?_ fun s' h' => ?_
 ·rw [hl]
  refine loop_ixP (S := S_lmasks) (fun j s => s.yheap_here = h ∧ s.yg = (g : Int) ∧ s.yfound = ((((rng 0 n).take j).filter (gb g)).flatMap fun k => MI ((rowOf h k).map mk)) ∧ s.yfound.length ≤ 20 * j) ⟨rfl, rfl, rfl, Nat.le_refl _⟩ ?_ (fun s q => ⟨q.1, q.2.1, by rw [q.2.2.1, List.take_length]; unfold MW VW MI; rw [List.map_flatMap, List.map_flatMap]⟩)
  intro j s x hx hi
  obtain ⟨a1, a2, a3, a4⟩ := s
  obtain ⟨e1, e2, e3, e4⟩ := hi
  dsimp only at e1 e2 e3 e4
  cases e1.symm; cases e2.symm
  have hj := (List.getElem?_eq_some_iff.mp hx).1
  rw [rng_len0] at hj
  obtain ⟨rfl, hk⟩ := rng_get0 hx
  obtain ⟨q1, q2, q3⟩ := w.at (k := j) (by omega)
  have et : (((rng 0 n).take (j + 1)).filter (gb g)).flatMap (fun k => MI ((rowOf h k).map mk)) = a3 ++ (if gb g j = true then MI ((rowOf h j).map mk) else []) := by
   rw [List.take_succ, hx, List.filter_append, List.flatMap_append, ← e3]
   congr 1
   simp only [Option.toList_some, List.filter_cons, List.filter_nil]
   cases gb g j <;> simp
  dsimp only
  rw [ift (shl_ok (by omega) (by omega))]
  simp only [bind_some, Int.toNat_natCast]
  rw [ift (fd_pow (by omega))]
  simp only [bind_some, ift d2, map_some, ift okI]
  have eb : ((g : Int) / (1 * 2 ^ j) % 2 == 1) = gb g j := by
   have := bt_nat g j
   unfold bt at this
   rw [Int.toNat_natCast] at this
   rw [this]; rfl
  rw [eb]
  cases hb : gb g j
  ·rw [hb] at et
   simp only [Bool.false_eq_true, if_false] at et ⊢
   exact ⟨_, rfl, rfl, rfl, by rw [et]; simp, by dsimp only; omega⟩
  ·rw [hb] at et
   simp only [if_true] at et ⊢
   rw [q1]
   simp only [map_some, bind_some]
   rw [ift (szc (by omega)), lc_map (f := fun v => ((mk v : Nat) : Int)) (fun _ _ => rfl) (fun v hv => by rw [lmask_t (q3 v hv)]; rfl)]
   simp only [bind_some]
   rw [ift (szc (by rw [List.length_map]; omega))]
   exact ⟨_, rfl, rfl, rfl, by rw [et]; unfold MI; rw [List.map_map]; rfl, by simp; omega⟩
 ·obtain ⟨b1, b2, b3, b4⟩ := s'
  obtain ⟨p1, p2, p3⟩ := h'
  dsimp only at p1 p2 p3
  subst p1; subst p2; subst p3
  rfl
theorem eqI (xs : List Int) : eqL (fun a b => a == b) xs xs = true := eqL_self (fun a => by simp) xs
theorem eqH (xs : List (List (List Int))) : eqL (eqL (eqL fun a b => a == b)) xs xs = true := eqL_self (fun a => eqL_self (fun a => eqL_self (fun a => by simp) a) a) xs
theorem okH1 (a : Int × List (List (List Int))) : Py.ok (rT2 rI (rM (rM (rM rI)))) a = true := by
 show (true && a.2.all fun x => x.all fun y => y.all fun _ => true) = true
 simp
theorem okH {a b : Int × List (List (List Int))} : (Py.ok (rT2 rI (rM (rM (rM rI)))) a && Py.ok (rT2 rI (rM (rM (rM rI)))) b && decide (min (Py.k (rT2 rI (rM (rM (rM rI))))) (Py.k (rT2 rI (rM (rM (rM rI))))) ≤ 50)) = true := by
 rw [okH1, okH1]; rfl
end LW
namespace LW
open PySem L2 DD TT RK
noncomputable abbrev Hh := Int × List (List (List Int))
noncomputable def mvd (m : Int) (vs : List (List Int)) : List (List Int) := vs.map fun v => v.map fun c => c + m
theorem mvd0 (vs : List (List Int)) : mvd 0 vs = vs := by
 unfold mvd
 have : (fun v : List Int => v.map fun c => c + 0) = id := by funext v; simp
 rw [this, List.map_id]
theorem moved_t {vs : List (List Int)} {m : Int} (hl : vs.length ≤ 1000) (hv : ∀ v ∈ vs, v.length ≤ 1000) : t_moved_views (vs, m, ()) = some (mvd m vs, vs, m, ()) := by
 unfold t_moved_views T_moved_views
 simp only [TT.tSeq, bind_some, map_some, ift (szc hl)]
 have h := lc_map (S := S_moved_views) (s := { xviews := vs, xmany := m }) (ft := fun _ s => some (true, s)) (fe := fun x9 s => if szC x9.length = true then TT.tLc (fun x10 s => some (true, s)) (fun x10 s => some (x10 + s.xmany, s)) x9 s else none) (f := fun (v : List Int) => v.map fun c => c + m) (xs := vs) (fun _ _ => rfl) (fun v hh => by
  rw [ift (szc (hv v hh))]
  exact lc_map (f := fun c => c + m) (fun _ _ => rfl) (fun _ _ => rfl))
 rw [h]
 rfl
noncomputable def bes (a b : Hh) : Hh := (a.1 + b.1, (a.2.zip b.2).map fun z => z.1 ++ mvd a.1 z.2)
structure Sm (h : Hh) : Prop where
 n : h.2.length ≤ 4
 r : ∀ x ∈ h.2, x.length ≤ 20 ∧ ∀ v ∈ x, v.length ≤ 1000
theorem WG.sm {B n : Nat} {h : Hh} (w : WG B n h) : Sm h := ⟨by have := w.len; have := w.n4; omega, fun x hx => ⟨(w.row x hx).1, fun v hv => ((w.row x hx).2 v hv).1⟩⟩
theorem beside_t {a b : Hh} (ha : Sm a) (hb : Sm b) : t_beside (a, b, ()) = some (bes a b, a, b, ()) := by
 unfold t_beside T_beside
 have hz : (a.2.zip b.2).length ≤ 1000 := by have := ha.n; simp only [List.length_zip]; omega
 simp only [TT.tSeq, bind_some, map_some, ift (szc hz)]
 rw [lc_map (f := fun (z : List (List Int) × List (List Int)) => z.1 ++ mvd a.1 z.2) (fun _ _ => rfl) (fun z hzm => by
  obtain ⟨z1, z2⟩ := z
  obtain ⟨m1, m2⟩ := List.of_mem_zip hzm
  have q1 := ha.r z1 m1
  have q2 := hb.r z2 m2
  have e1 := moved_t (vs := z1) (m := 0) (by omega) q1.2
  have e2 := moved_t (vs := z2) (m := a.1) (by omega) q2.2
  dsimp only
  simp only [e1, e2, map_some, bind_some, mvd0]
  rw [ift (szc (by unfold mvd; rw [List.length_map]; omega))])]
 simp only [map_some, bind_some]
 rfl
theorem lbeside_t {a b : Hh} (ha : Sm a) (hb : Sm b) (hl : a.2.length = b.2.length) : t_lbeside (a, b, ()) = some (bes a b, a, b, ()) := by
 have s0 : szC ([] : List (List (List Int))).length = true := szc (by simp)
 have hn := ha.n
 unfold t_lbeside T_lbeside
 simp only [TT.tSeq, bind_some, map_some, ift s0, ift (rok (z := (a.2.length : Int)) (by omega) (by omega))]
 refine loop_bindE2 (S := S_lbeside) (P := fun s => s.yone = a ∧ s.yother = b ∧ s.yviews = (bes a b).2) (fun o => o = some (bes a b, a, b, ())) ?_ ?_
 ·refine loop_ixP (S := S_lbeside) (fun k s => s.yone = a ∧ s.yother = b ∧ s.yviews = (bes a b).2.take k) ⟨rfl, rfl, rfl⟩ ?_ (fun s h => ⟨h.1, h.2.1, by
   rw [h.2.2, List.take_of_length_le]
   simp only [bes, List.length_map, List.length_zip, rng_len0]; omega⟩)
  intro k s x hx hs
  obtain ⟨a1, a2, a3, a4, a5⟩ := s
  obtain ⟨g1, g2, g3⟩ := hs
  dsimp only at g1 g2 g3
  subst g1; subst g2; subst g3
  obtain ⟨rfl, hk⟩ := rng_get0 hx
  have hk1 : k < a1.2.length := by omega
  have hk2 : k < a2.2.length := by omega
  have q1 := ha.r _ (List.getElem_mem hk1)
  have q2 := hb.r _ (List.getElem_mem hk2)
  dsimp only
  refine seqR (S := S_lbeside) (fun o => ∃ s', o = some (TR.nx s') ∧ s'.yone = a1 ∧ s'.yother = a2 ∧ s'.yviews = (bes a1 a2).2.take (k + 1)) (s1 := { yone := a1, yother := a2, yviews := (bes a1 a2).2.take k, yname := (k : Int), yrow := a1.2[k] }) (by
   simp only [at_nat hk1, map_some, bind_some]
   rw [ift (szc (by omega)), lc_map (f := fun v => v) (fun _ _ => rfl) (fun _ _ => rfl)]
   simp) ?_
  simp only [at_nat hk2, map_some, bind_some]
  rw [ift (szc (by omega))]
  have hm := lc_map (S := S_lbeside) (s := { yone := a1, yother := a2, yviews := (bes a1 a2).2.take k, yname := (k : Int), yrow := a1.2[k] }) (ft := fun _ s => some (true, s)) (fe := fun x5 s => if szC x5.length = true then TT.tLc (fun x6 s => some (true, s)) (fun x6 s => some (x6 + s.yone.fst, s)) x5 s else none) (f := fun (v : List Int) => v.map fun c => c + a1.1) (xs := a2.2[k]) (fun _ _ => rfl) (fun v hv => by
   rw [ift (szc (q2.2 v hv))]
   exact lc_map (f := fun c => c + a1.1) (fun _ _ => rfl) (fun _ _ => rfl))
  rw [hm]
  simp only [bind_some]
  rw [ift (szc (by rw [List.length_map]; omega))]
  simp only [bind_some]
  rw [ift (ltc (by simp only [bes, List.length_take, List.length_map, List.length_zip]; omega))]
  refine ⟨_, rfl, rfl, rfl, ?_⟩
  have hk3 : k < (bes a1 a2).2.length := by simp only [bes, List.length_map, List.length_zip]; omega
  rw [List.take_succ, List.getElem?_eq_getElem hk3]
  simp [bes, mvd]
 ·rintro ⟨a1, a2, a3, a4, a5⟩ ⟨g1, g2, g3⟩
  dsimp only at g1 g2 g3
  subst g1; subst g2; subst g3
  rfl
end LW
namespace LW
open PySem L2 DD TT RK
theorem mk_up {M : Nat} : ∀ {v : List Int}, (∀ c ∈ v, 0 ≤ c) → mk (v.map fun c => c + (M : Int)) = up M (mk v) := by
 intro v
 induction v with
 | nil => intro _; simp [mk, up]
 | cons c v ih =>
  intro h
  have h0 := h c (by simp)
  have ih' := ih fun d hd => h d (by simp [hd])
  unfold mk up at ih' ⊢
  simp only [List.map_cons, List.sum_cons]
  rw [ih', Nat.add_mul, show (c + (M : Int)).toNat = c.toNat + M by omega, Nat.pow_add]
theorem flat_two {α β : Type} (f g : α → List β) : ∀ l : List α, (l.flatMap fun x => f x ++ g x).Perm (l.flatMap f ++ l.flatMap g) := by
 intro l
 induction l with
 | nil => exact .nil
 | cons x l ih =>
  simp only [List.flatMap_cons]
  refine ((ih.append_left _)).trans ?_
  rw [List.append_assoc, List.append_assoc]
  refine List.Perm.append_left _ ?_
  rw [← List.append_assoc, ← List.append_assoc]
  exact List.perm_append_comm.append_right _
theorem rowOf_bes {a b : Hh} {n : Nat} (ha : a.2.length = n) (hb : b.2.length = n) {k : Nat} (hk : k < n) : rowOf (bes a b) (k : Int) = rowOf a (k : Int) ++ mvd a.1 (rowOf b (k : Int)) := by
 unfold rowOf bes
 simp only [Int.toNat_natCast]
 have h1 : k < a.2.length := by omega
 have h2 : k < b.2.length := by omega
 have hz : (a.2.zip b.2)[k]? = some (a.2[k], b.2[k]) := List.getElem?_zip_eq_some.mpr ⟨List.getElem?_eq_getElem h1, List.getElem?_eq_getElem h2⟩
 simp [List.getD, hz, h1, h2]
theorem rg_bes {Ma Mb n : Nat} {a b : Hh} (wa : WG Ma n a) (wb : WG Mb n b) (h1 : a.1 = (Ma : Int)) (g : Nat) : rg (bes a b) n g = rg a n g + rg b n g := by
 have hA : ∀ x ∈ (VW a n g).map mk, x < 2 ^ Ma := fun x hx => by
  obtain ⟨v, hv, rfl⟩ := List.mem_map.mp hx
  exact (VW_ok wa v hv).2.2
 unfold rg
 rw [← rk_sum (M := Ma) (bs := (VW b n g).map mk) hA]
 apply rk_perm
 have e1 : VW (bes a b) n g = ((rng 0 n).filter (gb g)).flatMap fun k => rowOf a k ++ mvd a.1 (rowOf b k) := by
  unfold VW
  rw [List.flatMap_def, List.flatMap_def]
  congr 1
  apply List.map_congr_left
  intro x hx
  obtain ⟨k, rfl, hk⟩ := rng_mem (List.mem_filter.mp hx).1
  exact rowOf_bes wa.len wb.len (by omega)
 rw [e1]
 have p1 := (flat_two (rowOf a) (fun k => mvd a.1 (rowOf b k)) ((rng 0 n).filter (gb g))).map mk
 refine p1.trans ?_
 rw [List.map_append]
 refine List.Perm.append_left _ (List.Perm.of_eq ?_)
 have e2 : (((rng 0 n).filter (gb g)).flatMap fun k => mvd a.1 (rowOf b k)) = mvd a.1 (VW b n g) := by
  unfold VW mvd
  rw [List.map_flatMap]
 rw [e2]
 unfold mvd
 rw [List.map_map, List.map_map]
 apply List.map_congr_left
 intro v hv
 simp only [Function.comp]
 rw [h1]
 exact mk_up fun c hc => ((VW_ok wb v hv).2.1 c hc).1
theorem vo_mvd {Ma Mb : Nat} (hM : Ma + Mb ≤ 100) {v : List Int} (h : VO Mb v) (hc : ∀ c ∈ v, c ≤ 900) : VO (Ma + Mb) (v.map fun c => c + (Ma : Int)) := by
 obtain ⟨h1, h2, h3⟩ := h
 refine ⟨by rw [List.length_map]; exact h1, fun c hcm => ?_, ?_⟩
 ·obtain ⟨d, hd, rfl⟩ := List.mem_map.mp hcm
  have := h2 d hd
  have := hc d hd
  omega
 ·rw [mk_up fun c hc => (h2 c hc).1]
  unfold up
  rw [Nat.pow_add, Nat.mul_comm]
  exact Nat.mul_lt_mul_of_pos_left h3 (Nat.pow_pos (by decide))
theorem coin_lt {B : Nat} {v : List Int} (h : VO B v) : ∀ c ∈ v, c < (B : Int) := fun c hc => by
 have h1 : ∀ {l : List Int}, c ∈ l → 2 ^ c.toNat ≤ mk l := by
  intro l
  induction l with
  | nil => intro h; cases h
  | cons d l ih =>
   intro h
   unfold mk at ih ⊢
   simp only [List.map_cons, List.sum_cons]
   rcases List.mem_cons.mp h with rfl | h
   ·exact Nat.le_add_right _ _
   ·exact Nat.le_trans (ih h) (Nat.le_add_left _ _)
 have h2 : 2 ^ c.toNat < 2 ^ B := Nat.lt_of_le_of_lt (h1 hc) h.2.2
 have h3 : c.toNat < B := (Nat.pow_lt_pow_iff_right (by decide)).mp h2
 have := (h.2.1 c hc).1
 omega
theorem vo_mono {A B : Nat} (hAB : A ≤ B) {v : List Int} (h : VO A v) : VO B v := ⟨h.1, h.2.1, Nat.lt_of_lt_of_le h.2.2 (Nat.pow_le_pow_right (by decide) hAB)⟩
theorem wg_bes {Ma Mb n p q : Nat} {a b : Hh} (wa : WG Ma n a) (wb : WG Mb n b) (h1 : a.1 = (Ma : Int)) (hM : Ma + Mb ≤ 100) (ra : ∀ r ∈ a.2, r.length ≤ p) (rb : ∀ r ∈ b.2, r.length ≤ q) (hpq : p + q ≤ 20) : WG (Ma + Mb) n (bes a b) ∧ (∀ r ∈ (bes a b).2, r.length ≤ p + q) := by
 have hr : ∀ r ∈ (bes a b).2, r.length ≤ p + q := fun r hr => by
  obtain ⟨⟨z1, z2⟩, hz, rfl⟩ := List.mem_map.mp hr
  obtain ⟨m1, m2⟩ := List.of_mem_zip hz
  have := ra z1 m1
  have := rb z2 m2
  simp only [List.length_append, mvd, List.length_map]; omega
 refine ⟨⟨by omega, by have := wa.len; have := wb.len; simp only [bes, List.length_map, List.length_zip]; omega, wa.n4, fun r hrm => ⟨by have := hr r hrm; omega, ?_⟩⟩, hr⟩
 obtain ⟨⟨z1, z2⟩, hz, rfl⟩ := List.mem_map.mp hrm
 obtain ⟨m1, m2⟩ := List.of_mem_zip hz
 intro v hv
 rcases List.mem_append.mp hv with hv | hv
 ·exact vo_mono (by omega) ((wa.row z1 m1).2 v hv)
 ·unfold mvd at hv
  obtain ⟨u, hu, rfl⟩ := List.mem_map.mp hv
  have hvo := (wb.row z2 m2).2 u hu
  rw [h1]
  exact vo_mvd hM hvo fun c hc => by have := coin_lt hvo c hc; omega
noncomputable def nil_h (n : Nat) : Hh := (0, List.replicate n [])
noncomputable def tkn (h : Hh) (n : Nat) : Nat → Hh
 | 0 => nil_h n
 | k + 1 => bes (tkn h n k) h
theorem lc_nils {S α : Type} {s : S} (xs : List α) : TT.tLc (fun _ (s : S) => some (true, s)) (fun _ (s : S) => if szC ([] : List (List Int)).length = true then some (([] : List (List Int)), s) else none) xs s = some (List.replicate xs.length [], s) := by
 rw [lc_map (f := fun _ => []) (fun _ _ => rfl) (fun _ _ => by rw [ift (szc (by simp))])]
 congr 2
 apply List.ext_getElem <;> simp
theorem wg_tkn {M n : Nat} {h : Hh} (w : WG M n h) (h1 : h.1 = (M : Int)) (hM : M ≤ 12) (hr : ∀ r ∈ h.2, r.length ≤ 3) : ∀ k, k ≤ 3 → WG (M * k) n (tkn h n k) ∧ (tkn h n k).1 = ((M * k : Nat) : Int) ∧ ∀ r ∈ (tkn h n k).2, r.length ≤ 3 * k := by
 intro k
 induction k with
 | zero =>
  intro _
  refine ⟨⟨by omega, by simp [tkn, nil_h], w.n4, fun r hr => ?_⟩, by simp [tkn, nil_h], fun r hr => ?_⟩
  ·simp only [tkn, nil_h, List.mem_replicate] at hr
   rw [hr.2]
   exact ⟨by simp, fun v hv => by cases hv⟩
  ·simp only [tkn, nil_h, List.mem_replicate] at hr
   rw [hr.2]; simp
 | succ k ih =>
  intro hk
  obtain ⟨w1, e1, r1⟩ := ih (by omega)
  have hmk : M * k + M ≤ 100 := by
   have : M * k ≤ 12 * 3 := Nat.mul_le_mul hM (by omega)
   omega
  obtain ⟨w2, r2⟩ := wg_bes w1 w e1 hmk r1 hr (by omega)
  refine ⟨by rw [Nat.mul_succ]; exact w2, ?_, fun r hrm => ?_⟩
  ·show (tkn h n k).1 + h.1 = _
   rw [e1, h1, Nat.mul_succ]
   omega
  ·have := r2 r hrm; omega
theorem taken_t {M n : Nat} {h : Hh} (w : WG M n h) (h1 : h.1 = (M : Int)) (hM : M ≤ 12) (hr : ∀ r ∈ h.2, r.length ≤ 3) {k : Nat} (hk : k ≤ 3) : t_taken (h, (k : Int), ()) = some (tkn h n k, h, (k : Int), ()) := by
 have hn := w.n4
 have hl := w.len
 unfold t_taken T_taken
 simp only [TT.tSeq, bind_some, map_some, hl, ift (szc (n := n) (by omega)), lc_nils, ift (rok (z := (k : Int)) (by omega) (by omega))]
 refine loop_bindE2 (S := S_taken) (P := fun s => s.xheap = h ∧ s.xtimes = (k : Int) ∧ s.xfound = tkn h n k) (fun o => o = some (tkn h n k, h, (k : Int), ())) ?_ ?_
 ·refine loop_ixP (S := S_taken) (fun j s => s.xheap = h ∧ s.xtimes = (k : Int) ∧ j ≤ k ∧ s.xfound = tkn h n j) ⟨rfl, rfl, Nat.zero_le _, rfl⟩ ?_ (fun s q => ⟨q.1, q.2.1, by have h2 := q.2.2.2; rw [rng_len0] at h2; simpa using h2⟩)
  intro j s x hx hs
  obtain ⟨a1, a2, a3, a4⟩ := s
  obtain ⟨g1, g2, g3, g4⟩ := hs
  dsimp only at g1 g2 g4
  subst g1; subst g2; subst g4
  obtain ⟨rfl, hj⟩ := rng_get0 hx
  obtain ⟨w1, _, _⟩ := wg_tkn w h1 hM hr j (by omega)
  have e := beside_t w1.sm w.sm
  dsimp only
  simp only [e, map_some]
  exact ⟨_, rfl, rfl, rfl, by omega, rfl⟩
 ·rintro ⟨a1, a2, a3, a4⟩ ⟨g1, g2, g3⟩
  dsimp only at g1 g2 g3
  subst g1; subst g2; subst g3
  rfl
theorem ltable_t {B n : Nat} {h : Hh} (w : WG B n h) : t_ltable (h, ()) = some (tabP h n, h, ()) := by
 have hn := w.n4
 have hl := w.len
 have hp := pow16 hn.2
 unfold t_ltable T_ltable
 have hsh : decide (0 ≤ (n : Int) ∧ (n : Int) ≤ 1000000 ∧ Int.natAbs 1 < 2 ^ 64) = true := decide_eq_true ⟨by omega, by omega, by decide⟩
 simp only [TT.tSeq, bind_some, map_some, hl, ift hsh, Int.toNat_natCast, pow_nat]
 rw [ift (show (rokC 1 && rokC ((2 ^ n : Nat) : Int)) = true by rw [rok (z := 1) (by omega) (by omega), rok (z := ((2 ^ n : Nat) : Int)) (by omega) (by omega)]; rfl)]
 simp only [bind_some]
 rw [ift (szc (by rw [rng1_len]; omega))]
 rw [lc_map (f := fun g => ((rg h n g.toNat : Nat) : Int)) (fun _ _ => rfl) (fun g hg => by
  obtain ⟨k, rfl, _, _⟩ := rng1_mem hg
  have e1 := masks_t w k
  have e2 := lrank_t (ms := MW h n k) (by
   have := (views_t w k).2
   unfold MW; rw [List.length_map]; omega)
  dsimp only
  simp only [e1, map_some, bind_some]
  have e3 : t_lrank (MI (MW h n k), ()) = some (((rk (MW h n k) : Nat) : Int), MI (MW h n k), ()) := e2
  simp only [e3, map_some]
  rfl)]
 rfl
end LW
namespace LW
open PySem L2 DD TT RK
theorem okH2 {a b : Hh} : (Py.ok (rT2 TT.rI (rL (rL (rL TT.rI)))) a && Py.ok (rT2 TT.rI (rL (rL (TT.rM TT.rI)))) b && decide (min (Py.k (rT2 TT.rI (rL (rL (rL TT.rI))))) (Py.k (rT2 TT.rI (rL (rL (TT.rM TT.rI))))) ≤ 50)) = true := okH
theorem okHs {a b : List Hh} : (Py.ok (rL (rT2 TT.rI (TT.rM (TT.rM (TT.rM TT.rI))))) a && Py.ok (TT.rM (rT2 TT.rI (TT.rM (TT.rM (TT.rM TT.rI))))) b && decide (min (Py.k (rL (rT2 TT.rI (TT.rM (TT.rM (TT.rM TT.rI)))))) (Py.k (TT.rM (rT2 TT.rI (TT.rM (TT.rM (TT.rM TT.rI)))))) ≤ 50)) = true := by
 have h : ∀ l : List Hh, (l.all fun x => Py.ok (rT2 TT.rI (TT.rM (TT.rM (TT.rM TT.rI)))) x) = true := fun l => List.all_eq_true.mpr fun x _ => okH1 x
 show ((a.all _) && (b.all _) && _) = true
 rw [h, h]; rfl
theorem eqHs (xs : List Hh) : eqL (fun (a b : Hh) => a.1 == b.1 && eqL (eqL (eqL fun a b => a == b)) a.2 b.2) xs xs = true := eqL_self (fun a => by rw [eqH]; simp) xs
theorem loopM_all {S α ρ : Type} {putx : S → α → S} {getx : S → α} {fb : S → Option (TR S ρ)} {I : S → Prop} : ∀ {xs : List α} {s : S}, (∀ s a, a ∈ xs → I s → ∃ s', fb (putx s a) = some (.nx s') ∧ I s') → I s → ∃ s' ys, tLoopM putx getx fb xs s = some (s', ys) ∧ I s' ∧ ys.length = xs.length
 | [], s, _, h => ⟨s, [], rfl, h, rfl⟩
 | a :: xs, s, hb, h => by
  obtain ⟨s1, e1, i1⟩ := hb s a (by simp) h
  obtain ⟨s2, ys, e2, i2, l2⟩ := loopM_all (getx := getx) (xs := xs) (fun s b hb' => hb s b (by simp [hb'])) i1
  exact ⟨s2, getx s1 :: ys, by simp only [tLoopM, e1, bind_some, e2, map_some], i2, by simp [l2]⟩
theorem map_bind {α β γ δ : Type} {o : Option α} {k : α → β} {f : β → Option γ} {g : γ → Option δ} (Q : Option δ → Prop) {P : α → Prop} (h : ∃ a, o = some a ∧ P a) (hk : ∀ a, P a → Q ((f (k a)).bind g)) : Q (((Option.map k o).bind f).bind g) := by
 obtain ⟨a, e, p⟩ := h
 rw [e]; exact hk a p
theorem spoil_t {h : Hh} (hs : Sm h) : ∃ h', t_lspoil (h, ()) = some ((), h', ()) := by
 unfold t_lspoil T_lspoil
 simp only [TT.tSeq, bind_some, map_some]
 have s7 : szC ([7] : List Int).length = true := szc (by simp)
 refine map_bind (P := fun a => a.2.length = h.2.length) (fun o => ∃ h', o = some ((), h', ())) ?_ ?_
 ·refine Exists.elim (loopM_all (S := S_lspoil) (ρ := Unit) (I := fun _ => True) (xs := h.2) (s := { yheap_here := h, yrow := [], yview := [] }) (putx := fun s v => { yheap_here := s.yheap_here, yrow := v, yview := s.yview }) (getx := S_lspoil.yrow)
   (fb := TT.tSeq (fun s => Option.map (fun q => TR.nx ({ yheap_here := q.fst.yheap_here, yrow := q.snd, yview := q.fst.yview } : S_lspoil)) (tLoopM (ρ := Unit) (fun s v => ({ yheap_here := s.yheap_here, yrow := s.yrow, yview := v } : S_lspoil)) S_lspoil.yview (fun s => Option.map (fun p => TR.nx p.snd) (if ltC s.yview.length = true then some ((), ({ yheap_here := s.yheap_here, yrow := s.yrow, yview := s.yview ++ [99] } : S_lspoil)) else none)) s.yrow s))
    fun s => Option.map (fun p => TR.nx p.snd) ((if szC ([7] : List Int).length = true then some ([7], s) else none).bind fun p => if ltC p.snd.yrow.length = true then some ((), ({ yheap_here := p.snd.yheap_here, yrow := p.snd.yrow ++ [p.fst], yview := p.snd.yview } : S_lspoil)) else none))
   (fun s a ha _ => by
    obtain ⟨hl, hv⟩ := hs.r a ha
    obtain ⟨s1, ys, e1, _, l1⟩ := loopM_all (S := S_lspoil) (ρ := Unit) (I := fun _ => True) (xs := a) (s := { yheap_here := s.yheap_here, yrow := a, yview := s.yview }) (putx := fun s v => { yheap_here := s.yheap_here, yrow := s.yrow, yview := v }) (getx := S_lspoil.yview)
     (fb := fun s => Option.map (fun p => TR.nx p.snd) (if ltC s.yview.length = true then some ((), ({ yheap_here := s.yheap_here, yrow := s.yrow, yview := s.yview ++ [99] } : S_lspoil)) else none))
     (fun s v hvm _ => by
      dsimp only
      rw [ift (ltc (hv v hvm))]
      exact ⟨_, rfl, trivial⟩) trivial
    simp only [TT.tSeq, e1, map_some, bind_some, ift s7]
    rw [ift (ltc (by omega))]
    exact ⟨_, rfl, trivial⟩) trivial) ?_
  rintro s' ⟨ys, e, _, l⟩
  exact ⟨_, e, l⟩
 ·rintro ⟨s', ys⟩ hl
  dsimp only at hl ⊢
  have := hs.n
  rw [ift (ltc (by omega))]
  exact ⟨_, rfl⟩
structure In1 (ns : List Int) (n : Nat) (a b : Hh) (m : Nat) (s : S_law) : Prop where
 e1 : s.yscript = ns
 e2 : s.yn = (n : Int)
 e3 : s.yone = a
 e4 : s.yother = b
 e5 : s.ykept = [a, b]
 e6 : s.ydue = bes a b
 e7 : s.ymany = (m : Int)
noncomputable def O1 (ns : List Int) (o : Option (TR S_law Bool)) : Prop := ∃ s', o = some (TR.nx s') ∧ s'.yscript = ns
noncomputable def O2 (ns : List Int) (n : Nat) (a b : Hh) (m : Nat) (o : Option (TR S_law Bool)) : Prop := ∃ s', o = some (TR.nx s') ∧ In1 ns n a b m s' ∧ s'.ywhole_here = tkn a n m
theorem tab_bes {Ma Mb n : Nat} {a b : Hh} (wa : WG Ma n a) (wb : WG Mb n b) (h1 : a.1 = (Ma : Int)) : ((tabP a n).zip (tabP b n)).map (fun z => z.1 + z.2) = tabP (bes a b) n := by
 unfold tabP
 rw [List.zip_map', List.map_map]
 apply List.map_congr_left
 intro g _
 simp only [Function.comp]
 rw [rg_bes wa wb h1]
 omega
theorem law_k (ns : List Int) (hl : ns.length ≤ 63) : ∃ q, t_law (ns, ()) = some (true, q) := by
 have d4 : decide ((0 : Int) < 4) = true := by decide
 have s2 : ∀ {a b : Hh}, szC ([a, b] : List Hh).length = true := szc (by simp)
 have r2 : rokC 2 = true := rok (by omega) (by omega)
 have it1 : isiT "tuple" "tuple" = some true := rfl
 have it2 : isiT "list" "list" = some true := rfl
 have f4 : ∀ x : Int, fdvC x 4 = true := fun x => fdvc (by decide)
 unfold t_law T_law
 simp only [TT.tSeq, bind_some, map_some]
 rw [ift (show twC (if (if (ns.length : Int) - 1 < 40 then (ns.length : Int) - 1 else 40) > 2 then if (ns.length : Int) - 1 < 40 then (ns.length : Int) - 1 else 40 else 2) = true by
  unfold twC
  refine decide_eq_true ?_
  split <;> split <;> omega)]
 simp only [bind_some]
 refine loop_bindE2 (S := S_law) (P := fun s => True) (fun o => ∃ q, o = some (true, q)) ?_ fun s' h => ⟨_, rfl⟩
 refine loop_ixP (S := S_law) (fun k s => s.yscript = ns) rfl ?_ (fun _ _ => trivial)
 intro k s x hx e1
 have hx0 : 0 ≤ x := by
  have hm := List.mem_of_getElem? hx
  unfold two at hm
  obtain ⟨j, _, rfl⟩ := List.mem_map.mp hm
  omega
 clear hx
 obtain ⟨c, ec⟩ := cell_t ns hx0
 obtain ⟨c2, ec2⟩ := cell_t ns (show 0 ≤ x + 1 by omega)
 obtain ⟨n, hn⟩ : ∃ n : Nat, 1 + c % 4 = (n : Int) := ⟨(1 + c % 4).toNat, by omega⟩
 have hn4 : 1 ≤ n ∧ n ≤ 4 := by omega
 obtain ⟨m, hm⟩ : ∃ m : Nat, c / 4 % 4 = (m : Int) := ⟨(c / 4 % 4).toNat, by omega⟩
 have hm3 : m ≤ 3 := by omega
 obtain ⟨a, Ma, ea, a1, aM, wa, ra⟩ := heap_t (c / 4) hn4 (mo := 12) (by omega)
 obtain ⟨b, Mb, eb, b1, bM, wb, rb⟩ := heap_t c2 hn4 (mo := 12) (by omega)
 have ea' : t_lheap (c / 4, (n : Int), 12, ()) = some (a, c / 4, (n : Int), 12, ()) := ea
 have eb' : t_lheap (c2, (n : Int), 12, ()) = some (b, c2, (n : Int), 12, ()) := eb
 have ca := copy_t wa
 have cb := copy_t wb
 have hln : a.2.length = b.2.length := by rw [wa.len, wb.len]
 have e_be := beside_t wa.sm wb.sm
 have e_lb := lbeside_t wa.sm wb.sm hln
 have e_aa := beside_t wa.sm wa.sm
 have e_la := lbeside_t wa.sm wa.sm rfl
 obtain ⟨wab, _⟩ := wg_bes wa wb a1 (by omega) ra rb (by omega)
 have e_tab := table_t wab
 have e_ta := ltable_t wa
 have e_tb := ltable_t wb
 obtain ⟨h1', e_s1⟩ := spoil_t wab.sm
 have e_tk := taken_t wa a1 aM ra hm3
 obtain ⟨wt, _, _⟩ := wg_tkn wa a1 aM ra m hm3
 obtain ⟨h2', e_s2⟩ := spoil_t wt.sm
 have k0 : atI ([a, b] : List Hh) 0 = some a := rfl
 have k1 : atI ([a, b] : List Hh) 1 = some b := rfl
 have hp := pow16 hn4.2
 have htl : (tabP a n).length ≤ 15 := by unfold tabP; rw [List.length_map, rng1_len]; omega
 obtain ⟨z1, z2, z3, z4, z5, z6, z7, z8, z9, z10, z11, z12⟩ := s
 dsimp only at e1
 subst e1
 show O1 z1 _
 refine seqR (S := S_law) (O1 z1) (by dsimp only; rw [ec]; rfl) ?_
 refine seqR (S := S_law) (O1 z1) (by simp only [ift d4, bind_some, map_some, hn]; rfl) ?_
 refine seqR (S := S_law) (O1 z1) (by simp only [ift (f4 _), bind_some, map_some, ea']; rfl) ?_
 refine seqR (S := S_law) (O1 z1) (by simp only [ec2, bind_some, map_some, eb']; rfl) ?_
 refine seqR (S := S_law) (O1 z1) (by simp only [ca, cb, bind_some, map_some, ift s2]; rfl) ?_
 refine seqR (S := S_law) (O1 z1) (by simp only [k0, k1, bind_some, map_some, e_lb]; rfl) ?_
 refine seqR (S := S_law) (O1 z1) (by simp only [ift (f4 _), ift d4, bind_some, map_some, hm]; rfl) ?_
 refine seqR (S := S_law) (O1 z1) (by
  simp only [ift (rok (z := (n : Int)) (by omega) (by omega)), bind_some]
  rw [ift (szc (by rw [rng_len0]; omega)), lc_nils]
  simp only [map_some, rng_len0, Int.toNat_natCast]
  rfl) ?_
 refine seqX (S := S_law) (P := fun s => In1 z1 n a b m s ∧ s.ywhole_here = tkn a n m) (O1 z1) ?_ ?_
 ·simp only [ift (rok (z := (m : Int)) (by omega) (by omega)), bind_some]
  refine loop_ixP (S := S_law) (fun j s => In1 z1 n a b m s ∧ j ≤ m ∧ s.ywhole_here = tkn a n j) ⟨⟨rfl, rfl, rfl, rfl, rfl, rfl, rfl⟩, Nat.zero_le _, rfl⟩ ?_ (fun s q => ⟨q.1, by have h2 := q.2.2; rw [rng_len0] at h2; simpa using h2⟩)
  intro j s y hy hs
  obtain ⟨y1, y2, y3, y4, y5, y6, y7, y8, y9, y10, y11, y12⟩ := s
  obtain ⟨⟨g1, g2, g3, g4, g5, g6, g7⟩, g8, g9⟩ := hs
  dsimp only at g1 g2 g3 g4 g5 g6 g7 g9
  subst g1; subst g2; subst g3; subst g4; subst g5; subst g6; subst g7; subst g9
  obtain ⟨rfl, hj⟩ := rng_get0 hy
  obtain ⟨wj, _, _⟩ := wg_tkn wa a1 aM ra j (by omega)
  have e := lbeside_t wj.sm wa.sm (by rw [wj.len, wa.len])
  dsimp only
  simp only [k0, map_some, bind_some, e]
  exact ⟨_, rfl, ⟨rfl, rfl, rfl, rfl, rfl, rfl, rfl⟩, by omega, rfl⟩
 ·intro s hs
  refine seqX (S := S_law) (P := fun s => In1 z1 n a b m s ∧ s.ywhole_here = tkn a n m) (O1 z1) ?_ ?_
  ·simp only [ift r2, bind_some]
   refine loop_ixP (S := S_law) (fun _ s => In1 z1 n a b m s ∧ s.ywhole_here = tkn a n m) hs ?_ (fun _ q => q)
   intro j s y hy hs
   obtain ⟨y1, y2, y3, y4, y5, y6, y7, y8, y9, y10, y11, y12⟩ := s
   obtain ⟨⟨g1, g2, g3, g4, g5, g6, g7⟩, g9⟩ := hs
   dsimp only at g1 g2 g3 g4 g5 g6 g7 g9
   subst g1; subst g2; subst g3; subst g4; subst g5; subst g6; subst g7; subst g9
   show O2 y1 n y5 y6 m _
   refine seqR (S := S_law) (O2 y1 n y5 y6 m) (by simp only [e_be, map_some]; rfl) ?_
   refine seqR (S := S_law) (O2 y1 n y5 y6 m) (by
    simp only [it1, it2, map_some, bind_some, Bool.not_true, Bool.false_eq_true, if_false, ift okH2, eqH, beq_self_eq_true, Bool.and_self, ift s2, ift okHs, eqHs]
    rfl) ?_
   refine seqR (S := S_law) (O2 y1 n y5 y6 m) (by
    simp only [e_tab, map_some, bind_some, k0, k1, e_ta, e_tb]
    rw [ift (szc (by rw [List.length_zip]; omega)), lc_map (f := fun z => z.1 + z.2) (fun _ _ => rfl) (fun _ _ => rfl), tab_bes wa wb a1]
    simp only [bind_some, ift okLL, eqI, map_some, Bool.not_true, Bool.false_eq_true, if_false]
    rfl) ?_
   refine seqR (S := S_law) (O2 y1 n y5 y6 m) (by simp only [e_s1, map_some]; rfl) ?_
   refine seqR (S := S_law) (O2 y1 n y5 y6 m) (by simp only [e_tk, map_some]; rfl) ?_
   refine seqR (S := S_law) (O2 y1 n y5 y6 m) (by
    simp only [it1, map_some, bind_some, Bool.not_true, Bool.false_eq_true, if_false, ift okH2, eqH, beq_self_eq_true, Bool.and_self, k0, ift okH]
    rfl) ?_
   simp only [e_s2, map_some]
   exact ⟨_, rfl, ⟨rfl, rfl, rfl, rfl, rfl, rfl, rfl⟩, rfl⟩
  ·intro s hs
   obtain ⟨y1, y2, y3, y4, y5, y6, y7, y8, y9, y10, y11, y12⟩ := s
   obtain ⟨⟨g1, g2, g3, g4, g5, g6, g7⟩, g9⟩ := hs
   dsimp only at g1 g2 g3 g4 g5 g6 g7 g9
   subst g1; subst g2; subst g3; subst g4; subst g5; subst g6; subst g7; subst g9
   dsimp only
   simp only [e_aa, e_la, k0, map_some, bind_some, ift okH2, eqH, beq_self_eq_true, Bool.and_self, Bool.not_true, Bool.false_eq_true, if_false, ift s2, ift okHs, eqHs]
   exact ⟨_, rfl, rfl⟩
theorem law_t (ns : List Int) (hl : ns.length ≤ 63) : ∃ q, t_law (ns, ()) = some (true, q) := law_k ns hl
theorem holds : ∀ ns : List Int, ns.length ≤ 63 → ∃ d, g_law [.lst false (ns.map D.int)] = some (.bl true, [d]) := holds_of j_law law_t
end LW
open PySem PySem.W PyProof.Rows
set_option maxRecDepth 100000 in
set_option maxHeartbeats 0 in
theorem PySem.Challenge.cw_telltight_k50_heaps_beside_holds : PySem.Challenge.rw_telltight_k50_heaps_beside.Holds := by
 w_on; o_law; k_head; (case hw => w_witness2)
 k_fill
 refine LW.walk (l := PySem.Challenge.rw_telltight_k50_heaps_beside) rfl rfl (fun w h Y => PySem.W.kIn_of Y) LW.holds ?F
 case F =>
  intro w mg fa h KX G hmg
  refine' LW.all_mk KX G hmg ?a0 ?l0 ?c0 ?k0 ?a1 ?l1 ?c1 ?k1 ?a2 ?l2 ?c2 ?k2 ?a3 ?l3 ?c3 ?k3 ?a4 ?l4 ?c4 ?k4 ?a5 ?l5 ?c5 ?k5 ?a6 ?l6 ?c6 ?k6 ?a7 ?l7 ?c7 ?k7 ?a8 ?l8 ?c8 ?k8 ?a9 ?l9 ?c9 ?k9 ?a10 ?l10 ?c10 ?k10 ?a11 ?l11 ?c11 ?k11 ?a12 ?l12 ?c12 ?k12 ?a13 ?l13 ?c13 ?k13 ?a14 ?l14 ?c14 ?k14 ?a15 ?l15 ?c15 ?k15 ?a16 ?l16 ?c16 ?k16 ?a17 ?l17 ?c17 ?k17 ?a18 ?l18 ?c18 ?k18 ?a19 ?l19 ?c19 ?k19 ?a20 ?l20 ?c20 ?k20 ?a21 ?l21 ?c21 ?k21 ?a22 ?l22 ?c22 ?k22 ?a23 ?l23 ?c23 ?k23 ?z_abs ?z_enumerate ?z_isinstance ?z_len ?z_list ?z_max ?z_min ?z_range ?z_sum ?z_tuple ?z_zip
  (case a0 => k_is)
  (case l0 => k_is)
  (case c0 => k_is)
  (case k0 => k_is)
  (case a1 => k_is)
  (case l1 => k_is)
  (case c1 => k_is)
  (case k1 => k_is)
  (case a2 => k_is)
  (case l2 => k_is)
  (case c2 => k_is)
  (case k2 => k_is)
  (case a3 => k_is)
  (case l3 => k_is)
  (case c3 => k_is)
  (case k3 => k_is)
  (case a4 => k_is)
  (case l4 => k_is)
  (case c4 => k_is)
  (case k4 => k_is)
  (case a5 => k_is)
  (case l5 => k_is)
  (case c5 => k_is)
  (case k5 => k_is)
  (case a6 => k_is)
  (case l6 => k_is)
  (case c6 => k_is)
  (case k6 => k_is)
  (case a7 => k_is)
  (case l7 => k_is)
  (case c7 => k_is)
  (case k7 => k_is)
  (case a8 => k_is)
  (case l8 => k_is)
  (case c8 => k_is)
  (case k8 => k_is)
  (case a9 => k_is)
  (case l9 => k_is)
  (case c9 => k_is)
  (case k9 => k_is)
  (case a10 => k_is)
  (case l10 => k_is)
  (case c10 => k_is)
  (case k10 => k_is)
  (case a11 => k_is)
  (case l11 => k_is)
  (case c11 => k_is)
  (case k11 => k_is)
  (case a12 => k_is)
  (case l12 => k_is)
  (case c12 => k_is)
  (case k12 => k_is)
  (case a13 => k_is)
  (case l13 => k_is)
  (case c13 => k_is)
  (case k13 => k_is)
  (case a14 => k_is)
  (case l14 => k_is)
  (case c14 => k_is)
  (case k14 => k_is)
  (case a15 => k_is)
  (case l15 => k_is)
  (case c15 => k_is)
  (case k15 => k_is)
  (case a16 => k_is)
  (case l16 => k_is)
  (case c16 => k_is)
  (case k16 => k_is)
  (case a17 => k_is)
  (case l17 => k_is)
  (case c17 => k_is)
  (case k17 => k_is)
  (case a18 => k_is)
  (case l18 => k_is)
  (case c18 => k_is)
  (case k18 => k_is)
  (case a19 => k_is)
  (case l19 => k_is)
  (case c19 => k_is)
  (case k19 => k_is)
  (case a20 => k_is)
  (case l20 => k_is)
  (case c20 => k_is)
  (case k20 => k_is)
  (case a21 => k_is)
  (case l21 => k_is)
  (case c21 => k_is)
  (case k21 => k_is)
  (case a22 => k_is)
  (case l22 => k_is)
  (case c22 => k_is)
  (case k22 => k_is)
  (case a23 => k_is)
  (case l23 => k_is)
  (case c23 => k_is)
  (case k23 => k_is)
  (case z_abs => k_is)
  (case z_enumerate => k_is)
  (case z_isinstance => k_is)
  (case z_len => k_is)
  (case z_list => k_is)
  (case z_max => k_is)
  (case z_min => k_is)
  (case z_range => k_is)
  (case z_sum => k_is)
  (case z_tuple => k_is)
  (case z_zip => k_is)
#print axioms PySem.Challenge.cw_telltight_k50_heaps_beside_holds
