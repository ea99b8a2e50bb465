import PyProof.Rows.All
import Wide.All
import OpenK.AllK
import Wide.FinOn
import Lean
import PyProof.EqAt
import PyProof.EqKinds
import PyProof.TupleCall
import PyProof.FactsAll.list_3
import PyProof.EnumMake
import PyProof.Draws
import PyProof.Rows.CallKwBuiltin
import PyProof.ListRange
import PyProof.TupleIter
import PyProof.Rows.Range3
import PyProof.ZipIter
import PyProof.FactsAll.int_0
import PyProof.FactsAll.int_6
import PyProof.Rows.RuleM_int
import PyProof.ReprNest
import PyProof.ReprLen
import PyProof.StrOps
import PySem.Challenge.RW_telltight_k02_rules_in_order
set_option bootstrap.genMatcherCode false
set_option compiler.extract_closed false
open Option (bind_some map_some)
set_option Elab.async false
set_option linter.all false
set_option maxRecDepth 100000
namespace L2
open PySem PySem.Spec PyProof.Rows
noncomputable abbrev Key := Sum Int Str
noncomputable def keyIs : Key → Value → Bool
 | .inl k, v => Value.isInt k v
 | .inr x, v => Value.isStrOf x v
noncomputable def keyH (w : World) : Key → Int
 | .inl k => hashInt k
 | .inr x => hashStr w x
theorem keyIs_shape : ∀ {k : Key} {v : Value}, keyIs k v = true → (∃ i t, k = Sum.inl i ∧ v = Value.int i t) ∨ (∃ x t, k = Sum.inr x ∧ v = Value.str x t)
 | .inl i, v, h => by
  obtain ⟨t, e⟩ := Value.isInt_shape (k := i) (v := v) h
  exact .inl ⟨i, t, rfl, e⟩
 | .inr x, v, h => by
  obtain ⟨t, e⟩ := Value.isStrOf_shape (x := x) (v := v) h
  exact .inr ⟨x, t, rfl, e⟩
theorem key_ll (a b : Int) : decide ((Sum.inl a : Key) = Sum.inl b) = (a == b) := by
 by_cases e : a = b
 ·subst e; simp
 ·have h : ¬ (Sum.inl a : Key) = Sum.inl b := fun q => e (Sum.inl.inj q)
  rw [decide_eq_false h]
  exact (beq_eq_false_iff_ne.mpr e).symm
theorem key_rr (a b : Str) : decide ((Sum.inr a : Key) = Sum.inr b) = decide (a = b) := by
 by_cases e : a = b
 ·subst e; simp
 ·have h : ¬ (Sum.inr a : Key) = Sum.inr b := fun q => e (Sum.inr.inj q)
  rw [decide_eq_false h, decide_eq_false e]
theorem key_lr (a : Int) (b : Str) : decide ((Sum.inl a : Key) = Sum.inr b) = false := decide_eq_false (fun q => nomatch q)
theorem key_rl (a : Str) (b : Int) : decide ((Sum.inr a : Key) = Sum.inl b) = false := decide_eq_false (fun q => nomatch q)
noncomputable def mixKind (prog : Program) (w : World) : PySem.KeyKind prog w Key where
 is := keyIs
 hash := keyH w
 inj := fun v a b ha hb => by
  rcases keyIs_shape ha with ⟨i, t, rfl, rfl⟩ | ⟨x, t, rfl, rfl⟩
  ·rcases keyIs_shape hb with ⟨j, u, rfl, e⟩ | ⟨y, u, rfl, e⟩
   ·injection e with e1 _; rw [e1]
   ·exact nomatch e
  ·rcases keyIs_shape hb with ⟨j, u, rfl, e⟩ | ⟨y, u, rfl, e⟩
   ·exact nomatch e
   ·injection e with e1 _; rw [e1]
 byValue := fun k v h => by
  rcases keyIs_shape h with ⟨i, t, rfl, rfl⟩ | ⟨x, t, rfl, rfl⟩ <;> rfl
 pyHash := fun hv h => by
  rcases keyIs_shape hv with ⟨i, t, rfl, rfl⟩ | ⟨x, t, rfl, rfl⟩
  ·exact wpAny_pyHash_int h
  ·exact wpAny_pyHash_str h
 eqBool := fun hu hv h => by
  rcases keyIs_shape hu with ⟨i, t, rfl, rfl⟩ | ⟨x, t, rfl, rfl⟩
  ·rcases keyIs_shape hv with ⟨j, u, rfl, rfl⟩ | ⟨y, u, rfl, rfl⟩
   ·rw [key_ll] at h; exact wpAny_eqBool_int h
   ·rw [key_lr] at h; exact SeqAt.EqAt.int_str i t y u _ _ _ _ h
  ·rcases keyIs_shape hv with ⟨j, u, rfl, rfl⟩ | ⟨y, u, rfl, rfl⟩
   ·rw [key_rl] at h; exact SeqAt.EqAt.str_int x t j u _ _ _ _ h
   ·rw [key_rr] at h; exact wpAny_eqBool_str h
 «strs» := fun k x t v h => by
  rcases keyIs_shape h with ⟨i, u, rfl, e⟩ | ⟨y, u, rfl, e⟩
  ·exact nomatch e
  ·injection e with e1 _
   subst e1
   cases v <;> rfl
end L2
namespace L2
open PySem PySem.Spec PyProof.Rows
inductive V where
 | non | bl (b : Bool) | int (i : Int) | str (x : Str) | byt (b : Array UInt8) | flt (b : UInt64) | ref (a : Addr) | ty (n : String)
 deriving DecidableEq
noncomputable def RelV : V → Value → Prop
 | .non, u => u = Value.none
 | .bl b, u => u = Value.bool b
 | .int i, u => ∃ t, u = Value.int i t
 | .str x, u => ∃ t, u = Value.str x t
 | .byt b, u => ∃ t, u = Value.bytes b t
 | .flt b, u => ∃ t, u = Value.float b t
 | .ref a, u => u = Value.ref a
 | .ty n, u => u = Value.type n
noncomputable abbrev Vals : List V → List Value → Prop := Paired RelV
theorem Vals.length {xs : List V} {us : List Value} (r : Vals xs us) : xs.length = us.length := Paired.length r
theorem Vals.get : ∀ {xs : List V} {us : List Value} {i : Nat} {x : V}, Vals xs us → xs[i]? = some x → ∃ u, us[i]? = some u ∧ RelV x u
 | _, _, _, _, .nil, e => by simp at e
 | _, _, 0, _, .cons r _, e => by simp at e; subst e; exact ⟨_, rfl, r⟩
 | _, _, i + 1, x, .cons _ t, e => by
  obtain ⟨u, h1, h2⟩ := Vals.get (i := i) (x := x) t (by simpa using e)
  exact ⟨u, by simpa using h1, h2⟩
theorem Vals.set {x : V} {u : Value} (r : RelV x u) : ∀ {xs : List V} {us : List Value} (i : Nat), Vals xs us → Vals (xs.set i x) (us.set i u)
 | _, _, _, .nil => .nil
 | _, _, 0, .cons _ t => .cons r t
 | _, _, i + 1, .cons q t => .cons q (Vals.set r i t)
theorem Vals.append : ∀ {xs ys : List V} {us ws : List Value}, Vals xs us → Vals ys ws → Vals (xs ++ ys) (us ++ ws)
 | _, _, _, _, .nil, s => s
 | _, _, _, _, .cons r t, s => .cons r (Vals.append t s)
theorem Vals.take : ∀ {xs : List V} {us : List Value} (n : Nat), Vals xs us → Vals (xs.take n) (us.take n)
 | _, _, 0, _ => .nil
 | _, _, _ + 1, .nil => .nil
 | _, _, n + 1, .cons r t => .cons r (Vals.take n t)
theorem Vals.drop : ∀ {xs : List V} {us : List Value} (n : Nat), Vals xs us → Vals (xs.drop n) (us.drop n)
 | _, _, 0, r => r
 | _, _, _ + 1, .nil => .nil
 | _, _, n + 1, .cons _ t => Vals.drop n t
noncomputable def RelO : Option V → Option Value → Prop
 | some v, some u => RelV v u
 | none, none => True
 | _, _ => False
noncomputable def KV {κ : Type} : List (κ × V) → List (κ × Value) → Prop := Paired fun (p : κ × V) (q : κ × Value) => p.1 = q.1 ∧ RelV p.2 q.2
noncomputable def kV : Key → V
 | .inl i => .int i
 | .inr x => .str x
inductive HO where
  | lst (xs : List V)
  | tup (xs : List V)
  | dK (kvs : List (Key × V)) | dT (kvs : List (List Key × V))
  | set (S : Int → Bool) (n : Nat)
  | ins (C dx : Addr) (fs : List (Str × V))
  | own (x : Addr)
  | xd (fs : List (Str × V))
  | met (f x : Addr)
  | rng (lo hi : Int)
  | frz (o : Obj) (u : HO)
  | tbl (ps : Array Value)
  | ext (φ : Heap → Prop)
noncomputable abbrev Hp := Addr → Option HO
noncomputable def upd (H : Hp) (a : Addr) (o : HO) : Hp := fun b => if b = a then some o else H b
theorem upd_same {H : Hp} {a : Addr} {o : HO} : upd H a o a = some o := by unfold upd; rw [if_pos rfl]
theorem upd_ne {H : Hp} {a b : Addr} {o : HO} (h : b ≠ a) : upd H a o b = H b := by unfold upd; rw [if_neg h]
theorem ne_of_none {H : Hp} {a b : Addr} {o : HO} (h : H a = some o) (h' : H b = none) : a ≠ b := by
 intro e; subst e; rw [h] at h'; cases h'
section
variable (P : Program) (w : World)
noncomputable def ObjOk (H : Hp) (h : Heap) (a : Addr) : HO → Prop
 | .lst xs => xs.length ≤ sizeLine ∧ ∃ (its : List Value) (n : Nat), Vals xs its ∧ h.get? a = some { cls := .type "list", data := .seq its.toArray n }
 | .tup xs => xs.length ≤ sizeLine ∧ ∃ its : List Value, Vals xs its ∧ IsTup h a its.toArray
 | .dK kvs => kvs.length ≤ sizeLine ∧ (a == sysModules) = false ∧ ∃ vs, KV kvs vs ∧ h.DictOf (mixKind P w) a vs
 | .dT kvs => kvs.length ≤ sizeLine ∧ (a == sysModules) = false ∧ ∃ xs : List (List Key × Addr × Value),
   Paired (fun (p : List Key × V) (q : List Key × Addr × Value) => p.1 = q.1 ∧ H q.2.1 = some (.tup (p.1.map kV)) ∧ RelV p.2 q.2.2) kvs xs ∧
   ∃ o es ep, h.get? a = some o ∧ o.ExactDict ∧ o.data = .dict es ep ∧ es.toList = xs.map (entryOfKey (tupleKind (mixKind P w))) ∧ (xs.map (·.1)).Nodup
 | .set S n => h.SetOf (intKind P w) a S n
 | .ins C dx fs => H dx = some (.own a) ∧ fs.length ≤ 1000 ∧ dx ≠ a ∧ h.get? a = some (PySem.W.instObj C dx) ∧
   ∃ mA, h.Ns1 dx mA ∧ (∀ f, RelO (fs.lookup f) (mA f)) ∧ PySem.Within mA (fs.map (·.1))
 | .own _ => ∃ o, h.get? a = some o
 | .xd fs => ∃ mA, h.Ns1 a mA ∧ ∀ f, RelO (fs.lookup f) (mA f)
 | .rng lo hi => ∃ t u v, h.get? a = some { cls := .type "range", data := .fields #[.int lo t, .int hi u, .int 1 v] }
 | .frz o u => h.get? a = some o ∧ ObjOk H h a u
 | .tbl ps => h.get? a = some { cls := .none, data := .fields ps }
 | .met f x => h.get? a = some (PySem.W.methodObj (.ref f) (.ref x))
 | .ext φ => φ h ∧ (∃ o, h.get? a = some o) ∧ ∀ h1 h2 : Heap, φ h1 → (∀ o, h1.get? a = some o → h2.get? a = some o) → φ h2
noncomputable def HOk (H : Hp) (h : Heap) : Prop := ∀ a o, H a = some o → ObjOk P w H h a o
end
section
variable {P : Program} {w : World} {H H' : Hp} {h h' : Heap} {a : Addr} {o : HO}
theorem ObjOk.lt (x : ObjOk P w H h a o) : a < h.objs.size := by
 cases o with
 | lst xs => obtain ⟨_, _, _, _, e⟩ := x; exact Heap.lt_size e
 | tup xs => obtain ⟨_, _, _, p⟩ := x; exact p.lt
 | dK kvs => obtain ⟨_, _, _, _, o, _, _, e, _⟩ := x; exact Heap.lt_size e
 | dT kvs => obtain ⟨_, _, _, _, o, _, _, e, _⟩ := x; exact Heap.lt_size e
 | set S n => obtain ⟨o, _, _, _, e, _⟩ := x; exact Heap.lt_size e
 | ins C dx fs => obtain ⟨_, _, _, e, _⟩ := x; exact Heap.lt_size e
 | own y => obtain ⟨_, e⟩ := x; exact Heap.lt_size e
 | xd fs => obtain ⟨_, ⟨_, _, _, e, _⟩, _⟩ := x; exact Heap.lt_size e
 | rng lo hi => obtain ⟨_, _, _, e⟩ := x; exact Heap.lt_size e
 | frz ob u => obtain ⟨e, _⟩ := x; exact Heap.lt_size e
 | tbl ps => exact Heap.lt_size (show h.get? a = some _ from x)
 | met f y => exact Heap.lt_size (show h.get? a = some _ from x)
 | ext φ => obtain ⟨_, ⟨_, e⟩, _⟩ := x; exact Heap.lt_size e
theorem Paired.mapP {α β : Type} {F G : α → β → Prop} : ∀ {l₁ : List α} {l₂ : List β}, Paired F l₁ l₂ → (∀ a b, F a b → G a b) → Paired G l₁ l₂
 | _, _, .nil, _ => .nil
 | _, _, .cons r t, f => .cons (f _ _ r) (Paired.mapP t f)
theorem ObjOk.stay (x : ObjOk P w H h a o) (k : ∀ b u, (b = a ∨ H b = some (.own a)) → h.get? b = some u → h'.get? b = some u)
  (ho : ∀ b, H b = some (.own a) → H' b = some (.own a)) (ht : ∀ b xs, H b = some (.tup xs) → H' b = some (.tup xs)) : ObjOk P w H' h' a o := by
 induction o with
 | lst xs => obtain ⟨z, its, n, r, e⟩ := x; exact ⟨z, its, n, r, k _ _ (.inl rfl) e⟩
 | tup xs => obtain ⟨z, its, r, ob, e, c⟩ := x; exact ⟨z, its, r, ob, k _ _ (.inl rfl) e, c⟩
 | dK kvs => obtain ⟨z, y, vs, r, ob, es, ep, e, c⟩ := x; exact ⟨z, y, vs, r, ob, es, ep, k _ _ (.inl rfl) e, c⟩
 | dT kvs =>
  obtain ⟨z, y, xs, r, ob, es, ep, e, c⟩ := x
  exact ⟨z, y, xs, Paired.mapP r fun p q z => ⟨z.1, ht _ _ z.2.1, z.2.2⟩, ob, es, ep, k _ _ (.inl rfl) e, c⟩
 | set S n => obtain ⟨ob, es, ep, t, e, c⟩ := x; exact ⟨ob, es, ep, t, k _ _ (.inl rfl) e, c⟩
 | ins C dx fs =>
  obtain ⟨d, z, ne, e, mA, ⟨od, es, ep, e2, c⟩, r⟩ := x
  exact ⟨ho _ d, z, ne, k _ _ (.inl rfl) e, mA, ⟨od, es, ep, k _ _ (.inr d) e2, c⟩, r⟩
 | own y => obtain ⟨ob, e⟩ := x; exact ⟨ob, k _ _ (.inl rfl) e⟩
 | xd fs => obtain ⟨mA, ⟨od, es, ep, e, c⟩, r⟩ := x; exact ⟨mA, ⟨od, es, ep, k _ _ (.inl rfl) e, c⟩, r⟩
 | rng lo hi => obtain ⟨t, u, v, e⟩ := x; exact ⟨t, u, v, k _ _ (.inl rfl) e⟩
 | frz ob u ih => obtain ⟨e, q⟩ := x; exact ⟨k _ _ (.inl rfl) e, ih q⟩
 | tbl ps =>
  have e : h.get? a = some { cls := .none, data := .fields ps } := x
  show h'.get? a = some { cls := .none, data := .fields ps }
  exact k a _ (.inl rfl) e
 | met f y =>
  have e : h.get? a = some (PySem.W.methodObj (.ref f) (.ref y)) := x
  show h'.get? a = some (PySem.W.methodObj (.ref f) (.ref y))
  exact k a _ (.inl rfl) e
 | ext φ => obtain ⟨p, ⟨o, e⟩, st⟩ := x; exact ⟨st _ _ p fun o q => k _ _ (.inl rfl) q, ⟨o, k _ _ (.inl rfl) e⟩, st⟩
theorem HOk.lt (x : HOk P w H h) (e : H a = some o) : a < h.objs.size := (x a o e).lt
theorem HOk.fresh (x : HOk P w H h) (e : h.objs.size ≤ a) : H a = none := by
 cases q : H a with
 | none => rfl
 | some u => exact absurd (Nat.lt_of_lt_of_le (x.lt q) e) (Nat.lt_irrefl _)
theorem HOk.kept (x : HOk P w H h) (k : ∀ b u, h.get? b = some u → h'.get? b = some u) : HOk P w H h' := fun a o e =>
 (x a o e).stay (fun b u _ q => k b u q) (fun _ q => q) fun _ _ q => q
theorem HOk.laid (x : HOk P w H h) (k : ∀ b u, h.get? b = some u → h'.get? b = some u) (hp : h.objs.size ≤ a) (new : ObjOk P w (upd H a o) h' a o) : HOk P w (upd H a o) h' := fun b u e => by
 have hn := x.fresh hp
 by_cases hb : b = a
 ·subst hb; rw [upd_same] at e; cases e; exact new
 ·rw [upd_ne hb] at e
  exact (x b u e).stay (fun c v _ q => k c v q) (fun c q => by rw [upd_ne (ne_of_none q hn)]; exact q) fun c xs q => by rw [upd_ne (ne_of_none q hn)]; exact q
end
noncomputable def Rd (H : Hp) (a : Addr) (u : HO) : Prop := H a = some u ∨ ∃ o, H a = some (.frz o u)
theorem Rd.of {H : Hp} {a : Addr} {u : HO} (h : H a = some u) : Rd H a u := .inl h
theorem Rd.ok {P : Program} {w : World} {H : Hp} {h : Heap} {a : Addr} {u : HO} (r : Rd H a u) (x : HOk P w H h) : ObjOk P w H h a u := by
 rcases r with r | ⟨o, r⟩
 ·exact x a u r
 ·obtain ⟨_, q⟩ := x a _ r
  exact q
noncomputable def Mut : Option HO → Prop
 | some (.lst _) => True
 | some (.dK _) => True
 | some (.dT _) => True
 | some (.set _ _) => True
 | some (.ins _ _ _) => True
 | some (.ext _) => True
 | _ => False
section
variable {P : Program} {w : World} {H : Hp} {h h' : Heap} {x e : Addr} {o' : HO}
theorem HOk.write (ok : HOk P w H h) (mu : Mut (H x)) (he : e = x ∨ H e = some (.own x)) (k : ∀ b u, b ≠ e → h.get? b = some u → h'.get? b = some u) (heo : ∃ u, h'.get? e = some u)
  (new : ObjOk P w (upd H x o') h' x o') : HOk P w (upd H x o') h' := fun b u q => by
 have nown : ∀ c y, H c = some (.own y) → c ≠ x := fun c y r z => by subst z; rw [r] at mu; exact mu
 have ntup : ∀ c xs, H c = some (.tup xs) → c ≠ x := fun c xs r z => by subst z; rw [r] at mu; exact mu
 by_cases hb : b = x
 ·subst hb; rw [upd_same] at q; cases q; exact new
 ·rw [upd_ne hb] at q
  by_cases hbe : b = e
  ·have q' : H b = some (.own x) := by
    rcases he with z | z
    ·exact absurd (hbe.trans z) hb
    ·rw [hbe]; exact z
   rw [q] at q'; cases q'
   obtain ⟨v, hv⟩ := heo
   exact ⟨v, by rw [hbe]; exact hv⟩
  ·refine (ok b u q).stay (fun c v hc r => k c v ?_ r) (fun c r => by rw [upd_ne (nown c b r)]; exact r) fun c xs r => by rw [upd_ne (ntup c xs r)]; exact r
   rcases hc with rfl | hc
   ·exact hbe
   ·rintro rfl
    rcases he with z | z
    ·exact nown c b hc z
    ·rw [hc] at z; cases z; exact hb rfl
end
structure Un (fs ex : List Addr) (H H' : Hp) (h h' : Heap) : Prop where
 keep : ∀ b o, h.get? b = some o → H b = none → b ∉ fs → b ∉ ex → h'.get? b = some o
 slot : ∀ b o, h.get? b = some o → H b = none → b ∈ fs → b ∉ ex → ∃ sl, h'.get? b = some { o with slots := sl }
 free : ∀ b o, h.get? b = some o → H b = none → b ∉ ex → H' b = none
 there : ∀ b o, h.get? b = some o → b ∉ ex → ∃ o', h'.get? b = some o'
 tups : ∀ b xs, H b = some (.tup xs) → H' b = some (.tup xs)
 frzs : ∀ b o u, H b = some (.frz o u) → H' b = some (.frz o u)
 tbls : ∀ b ps, H b = some (.tbl ps) → ∃ more, H' b = some (.tbl (ps ++ more))
section
variable {fs fs' ex ex' : List Addr} {H H1 H2 : Hp} {h h1 h2 h' : Heap} {a x e : Addr} {o : HO}
theorem Un.any (u : Un fs ex H H1 h h1) {b : Addr} {ob : Obj} (q : h.get? b = some ob) (n : H b = none) (hx : b ∉ ex) : ∃ sl, h1.get? b = some { ob with slots := sl } := by
 by_cases hb : b ∈ fs
 ·exact u.slot b ob q n hb hx
 ·exact ⟨ob.slots, u.keep b ob q n hb hx⟩
theorem Un.trans (a : Un fs ex H H1 h h1) (b : Un fs ex H1 H2 h1 h2) : Un fs ex H H2 h h2 where
 keep := fun c ob q n hc hx => b.keep c ob (a.keep c ob q n hc hx) (a.free c ob q n hx) hc hx
 slot := fun c ob q n hc hx => by
  obtain ⟨sl, e1⟩ := a.slot c ob q n hc hx
  obtain ⟨sl', e2⟩ := b.slot c _ e1 (a.free c ob q n hx) hc hx
  exact ⟨sl', e2⟩
 free := fun c ob q n hx => by
  obtain ⟨o', e1⟩ := a.there c ob q hx
  exact b.free c o' e1 (a.free c ob q n hx) hx
 there := fun c ob q hx => by
  obtain ⟨o', e1⟩ := a.there c ob q hx
  exact b.there c o' e1 hx
 tups := fun c xs q => b.tups c xs (a.tups c xs q)
 frzs := fun c ob xs q => b.frzs c ob xs (a.frzs c ob xs q)
 tbls := fun c ps q => by
  obtain ⟨m1, e1⟩ := a.tbls c ps q
  obtain ⟨m2, e2⟩ := b.tbls c _ e1
  exact ⟨m1 ++ m2, by rw [e2, Array.append_assoc]⟩
theorem Un.kept (k : ∀ b u, h.get? b = some u → h'.get? b = some u) : Un fs ex H H h h' :=
 ⟨fun b ob q _ _ _ => k b ob q, fun b ob q _ _ _ => ⟨ob.slots, k b ob q⟩, fun _ _ _ n _ => n, fun b ob q _ => ⟨ob, k b ob q⟩, fun _ _ q => q, fun _ _ _ q => q, fun _ ps q => ⟨#[], by rw [q]; simp⟩⟩
theorem Un.refl : Un fs ex H H h h := Un.kept fun _ _ q => q
theorem Un.laid (k : ∀ b u, h.get? b = some u → h'.get? b = some u) (hp : h.objs.size ≤ a) (hn : H a = none) : Un fs ex H (upd H a o) h h' where
 keep := fun b u q _ _ _ => k b u q
 slot := fun b u q _ _ _ => ⟨u.slots, k b u q⟩
 free := fun b u q n _ => by rw [upd_ne (Nat.ne_of_lt (Nat.lt_of_lt_of_le (Heap.lt_size q) hp))]; exact n
 there := fun b u q _ => ⟨u, k b u q⟩
 tups := fun b xs q => by rw [upd_ne (ne_of_none q hn)]; exact q
 frzs := fun b u xs q => by rw [upd_ne (ne_of_none q hn)]; exact q
 tbls := fun b ps q => ⟨#[], by rw [upd_ne (ne_of_none q hn), q]; simp⟩
theorem Un.write (mu : Mut (H x)) (he : e = x ∨ H e = some (.own x)) (k : ∀ b u, b ≠ e → h.get? b = some u → h'.get? b = some u) (heo : ∃ u, h'.get? e = some u) : Un fs ex H (upd H x o) h h' := by
 have hx : ∀ b, H b = none → b ≠ x := fun b n z => by subst z; rw [n] at mu; exact mu
 have hb : ∀ b, H b = none → b ≠ e := fun b n z => by
  subst z
  rcases he with r | r
  ·exact hx b n r
  ·rw [n] at r; cases r
 have hm : ∀ b u, H b = some u → ¬ Mut (some u) → b ≠ x := fun b u q nm z => by subst z; rw [q] at mu; exact nm mu
 refine ⟨fun b u q n _ _ => k b u (hb b n) q, fun b u q n _ _ => ⟨u.slots, k b u (hb b n) q⟩, fun b u q n _ => by rw [upd_ne (hx b n)]; exact n, fun b u q _ => ?_,
  fun b xs q => by rw [upd_ne (hm b _ q fun z => z)]; exact q, fun b u xs q => by rw [upd_ne (hm b _ q fun z => z)]; exact q, fun b ps q => ⟨#[], by rw [upd_ne (hm b _ q fun z => z), q]; simp⟩⟩
 by_cases hbe : b = e
 ·subst hbe; exact heo
 ·exact ⟨u, k b u hbe q⟩
theorem Un.mono (u : Un fs ex H H1 h h1) (hs : ∀ b ∈ fs, b ∈ fs') (hx : ∀ b ∈ ex, b ∈ ex') : Un fs' ex' H H1 h h1 :=
 ⟨fun b ob q n hb he => u.keep b ob q n (fun z => hb (hs b z)) fun z => he (hx b z), fun _ _ q n _ he => u.any q n fun z => he (hx _ z), fun b ob q n he => u.free b ob q n fun z => he (hx b z), fun b ob q he => u.there b ob q fun z => he (hx b z), u.tups, u.frzs, u.tbls⟩
end
noncomputable def trk (h : Heap) (H : Hp) : List Addr := (List.range h.objs.size).filter fun a => (H a).isSome
noncomputable def hidT (h : Heap) (H : Hp) : Heap := PySem.W.hideAll h (trk h H)
theorem hidT_size (h : Heap) (H : Hp) : (hidT h H).objs.size = h.objs.size := PySem.W.hideAll_size _ _
theorem hidT_get {h : Heap} {H : Hp} {b : Addr} {o : Obj} (e : h.get? b = some o) (n : H b = none) : (hidT h H).get? b = some o :=
 PySem.W.hideAll_get _ e fun hm => by
  have q : (H b).isSome = true := (List.mem_filter.mp hm).2
  rw [n] at q; simp at q
theorem of_hidT {h : Heap} {H : Hp} {b : Addr} {o : Obj} (e : (hidT h H).get? b = some o) : h.get? b = some o ∧ H b = none := by
 have e' : h.get? b = some o := PySem.W.of_hideAll (trk h H) e
 refine ⟨e', ?_⟩
 cases q : H b with
 | none => rfl
 | some x =>
  have hm : b ∈ trk h H := List.mem_filter.mpr ⟨List.mem_range.mpr (Heap.lt_size e'), by simp [q]⟩
  have z : (hidT h H).get? b = none := PySem.W.hideAll_none (trk h H) hm
  rw [z] at e; cases e
noncomputable def allNews (g h : Heap) (L : Addr) : List (Addr × Obj) := (List.range h.objs.size).filterMap fun a => if a = L ∨ (g.get? a).isSome = true then none else (h.get? a).map fun o => (a, o)
noncomputable def rest (g h : Heap) (L d : Addr) : List (Addr × Obj) := (allNews g h L).filter fun p => decide (p.1 ≠ d)
end L2
namespace L2
open PySem PySem.Spec PyProof.Rows
structure Mod (K : PySem.W.Frag) (mg : Str → Option Value) (base : Heap) : Prop where
 kin : K.In base
 glob : base.Ns mainGlobals mg
 blt : ∃ mb, base.Ns builtinsNs mb ∧ ∀ x : Str, x ≠ "__name__" → mb x = bootBuiltins x
 nolimit : base.NoLimit
structure Cx where
 prog : Program
 w : World
 K : PySem.W.Frag
 mg : Str → Option Value
 base : Heap
 A : Around
 N : List Str
 s₀ : Shared
 H₀ : Hp
 env : Env
 outer : List Env
 stack : List Env
 ex : List Addr
 fn : Str → Bool
 calm : Bool
 pn : List (Addr × Obj)
 xe : Value → Shared → Prop
noncomputable def frs (l : List Env) : List Addr := l.filterMap (·.frame)
noncomputable abbrev Cx.fs (X : Cx) : List Addr := frs X.outer
noncomputable def Vis (sc : Scope) (x : Str) : Prop := sc.names.lookup x = some .local ∨ sc.names.lookup x = some .cell ∨ sc.names.lookup x = some .free
noncomputable def Loc (sc : Scope) (x : Str) : Prop := sc.names.lookup x = some .local ∨ sc.names.lookup x = some .cell
noncomputable def Look (env : Env) (h : Heap) (m : Str → Option Value) (x : Str) (u : Value) : Prop :=
 (env.kindOf x = some .local ∧ m x = some u) ∨ ((env.kindOf x = some .cell ∨ env.kindOf x = some .free) ∧ ∃ c, env.cells.lookup x = some c ∧ h.IsCell c (some u))
structure Cx.Ok (X : Cx) : Prop where
 mod : Mod X.K X.mg X.base
 kind : X.env.scope.kind = .function
 glob : X.env.globals = mainGlobals
 blt : X.env.builtins = builtinsNs
 above : X.s₀.heap.objs.size ≤ X.env.locals
 inj : ∀ x y c, X.env.cells.lookup x = some c → X.env.cells.lookup y = some c → x = y
 has : ∀ x, (X.env.kindOf x = some .cell ∨ X.env.kindOf x = some .free) → ∃ c, X.env.cells.lookup x = some c
 cab : ∀ x c, X.fn x = true → X.env.cells.lookup x = some c → X.s₀.heap.objs.size ≤ c
 hd : X.calm = true → X.A.handled = none
 frames : X.A.frames = some X.stack
 stk : X.stack = X.outer ∨ (X.stack = X.env :: X.outer ∧ X.env.frame = some X.env.locals)
 exf : ∀ b ∈ X.ex, b ≠ X.env.locals ∧ ∀ x c, X.env.cells.lookup x = some c → c ≠ b
 bs : ∀ b o, X.base.get? b = some o → X.s₀.heap.get? b = some o ∧ X.H₀ b = none
 bsz : X.base.objs.size ≤ X.s₀.heap.objs.size
 noex : ∀ b o, X.base.get? b = some o → b ∉ X.ex
 exfs : ∀ b ∈ X.ex, b ∉ X.fs
 funs : X.s₀.heap.FunFrames X.base X.outer
 frf : ∀ b ∈ X.fs, X.H₀ b = none
structure Inv (X : Cx) (pins : List (Addr × Obj)) (σ : List (Option V)) (H : Hp) (s : Shared) : Prop where
 ok : X.Ok
 os : s.os = X.s₀.os
 bare : AllBare s.gens
 base : Un X.fs X.ex X.H₀ H X.s₀.heap s.heap
 loc : ∃ m, s.heap.Ns X.env.locals m ∧ ∀ (i : Nat) (x : Str) (v : V), X.N[i]? = some x → σ[i]? = some (some v) → Vis X.env.scope x → ∃ u, RelV v u ∧ Look X.env s.heap m x u
 cell : ∀ x c, X.env.cells.lookup x = some c → ∃ v, s.heap.IsCell c v
 free : H X.env.locals = none
 freeC : ∀ x c, X.env.cells.lookup x = some c → H c = none
 pin : ∀ p ∈ X.pn ++ pins, s.heap.get? p.1 = some p.2 ∧ H p.1 = none ∧ p.1 ≠ X.env.locals ∧ p.1 ∉ X.fs ∧ ∀ v, p.2.data ≠ .cell v
 hok : HOk X.prog X.w H s.heap
 len : σ.length = X.N.length
section
variable {X : Cx} {pins : List (Addr × Obj)} {σ : List (Option V)} {H H' : Hp} {s : Shared} {h' : Heap}
theorem Cx.Ok.nofr (ok : X.Ok) {b : Addr} {o : Obj} (e : X.base.get? b = some o) : b ∉ X.fs := fun hb => by
 have := (ok.funs.mem hb).1
 rw [e] at this; cases this
theorem Inv.bs (I : Inv X pins σ H s) : ∀ b o, X.base.get? b = some o → s.heap.get? b = some o ∧ H b = none := fun b o e =>
 ⟨I.base.keep b o (I.ok.bs b o e).1 (I.ok.bs b o e).2 (I.ok.nofr e) (I.ok.noex b o e), I.base.free b o (I.ok.bs b o e).1 (I.ok.bs b o e).2 (I.ok.noex b o e)⟩
theorem Inv.bk (I : Inv X pins σ H s) : ∀ b o, X.base.get? b = some o → s.heap.get? b = some o := fun b o e => (I.bs b o e).1
theorem Inv.mod (I : Inv X pins σ H s) : Mod X.K X.mg X.base := I.ok.mod
theorem Inv.kIn (I : Inv X pins σ H s) : X.K.In s.heap := I.ok.mod.kin.keeps I.bk
theorem Inv.nolimit (I : Inv X pins σ H s) : s.heap.NoLimit := I.ok.mod.nolimit.keeps I.bk
theorem Inv.fr (I : Inv X pins σ H s) : ∃ m, Fr X.base X.env.locals s.heap m :=
 let ⟨m, hn, _⟩ := I.loc
 ⟨m, hn, I.bk, Nat.le_trans I.ok.bsz I.ok.above⟩
theorem Inv.lt (I : Inv X pins σ H s) : X.env.locals < s.heap.objs.size := let ⟨_, hn, _⟩ := I.loc; hn.lt
theorem Inv.sz (I : Inv X pins σ H s) : X.s₀.heap.objs.size ≤ s.heap.objs.size := Nat.le_trans I.ok.above (Nat.le_of_lt I.lt)
theorem Inv.nofs (I : Inv X pins σ H s) {a : Addr} (h : s.heap.objs.size ≤ a) : a ∉ X.fs := fun hb => by
 obtain ⟨_, o, ho, _⟩ := I.ok.funs.mem hb
 exact absurd (Nat.lt_of_lt_of_le (Heap.lt_size ho) (Nat.le_trans I.sz h)) (Nat.lt_irrefl _)
theorem Inv.cne (I : Inv X pins σ H s) : ∀ x c, X.env.cells.lookup x = some c → c ≠ X.env.locals := fun x c e z => by
 obtain ⟨v, o, ho, hd⟩ := I.cell x c e
 obtain ⟨m, ⟨o', es, ep, ho', hd', _⟩, _⟩ := I.loc
 rw [z, ho'] at ho; cases ho; rw [hd'] at hd; cases hd
theorem Inv.funs (I : Inv X pins σ H s) : s.heap.FunFrames X.base X.outer := by
 have all : ∀ (l : List Env), (∀ b ∈ frs l, b ∈ X.fs) → X.s₀.heap.FunFrames X.base l → s.heap.FunFrames X.base l := by
  intro l
  induction l with
  | nil => intro _ _; trivial
  | cons env r ih =>
   intro hs hl
   obtain ⟨hk, ⟨L, o, hf, hn, ho, hd⟩, hr⟩ := hl
   have hL : L ∈ X.fs := hs L (by unfold frs; rw [List.filterMap_cons, hf]; exact List.mem_cons_self)
   obtain ⟨sl, e⟩ := I.base.slot L o ho (I.ok.frf L hL) hL fun z => I.ok.exfs L z hL
   exact ⟨hk, ⟨L, _, hf, hn, e, hd⟩, ih (fun b hb => hs b (by unfold frs; rw [List.filterMap_cons, hf]; exact List.mem_cons_of_mem _ hb)) hr⟩
 exact all X.outer (fun _ hb => hb) I.ok.funs
theorem Inv.stack (I : Inv X pins σ H s) : s.heap.FunFrames X.base X.stack := by
 rcases I.ok.stk with e | ⟨e, hf⟩
 ·rw [e]; exact I.funs
 ·rw [e]
  obtain ⟨m, hn, _⟩ := I.loc
  refine .cons (by rw [I.ok.kind]; decide) hf hn ?_ I.funs
  exact Heap.get?_none_of_le (Nat.le_trans I.ok.bsz I.ok.above)
theorem Inv.stkSub (I : Inv X pins σ H s) : ∀ b ∈ frs X.stack, b ∈ X.env.locals :: X.fs := fun b hb => by
 rcases I.ok.stk with e | ⟨e, hf⟩
 ·rw [e] at hb; exact List.mem_cons_of_mem _ hb
 ·rw [e] at hb
  unfold frs at hb
  rw [List.filterMap_cons, hf] at hb
  exact hb
theorem Inv.stkFree (I : Inv X pins σ H s) : ∀ b ∈ frs X.stack, H b = none := fun b hb => by
 rcases List.mem_cons.mp (I.stkSub b hb) with e | hb
 ·rw [e]; exact I.free
 ·obtain ⟨_, o, ho, _⟩ := I.ok.funs.mem hb
  exact I.base.free b o ho (I.ok.frf b hb) fun z => I.ok.exfs b z hb
theorem Inv.step {g' : Array GenState} {t' : Nat} {d' : Drawn} {ch : List Addr} (I : Inv X pins σ H s)
  (hch : ∀ b ∈ ch, (b ∈ X.ex ∨ X.s₀.heap.objs.size ≤ b) ∧ b ≠ X.env.locals ∧ (∀ x c, X.env.cells.lookup x = some c → c ≠ b) ∧ ∀ p ∈ X.pn ++ pins, p.1 ≠ b)
  (keep : ∀ b o, b ≠ X.env.locals → b ∉ X.fs → b ∉ ch → s.heap.get? b = some o → H b = none → h'.get? b = some o)
  (slot : ∀ b o, b ≠ X.env.locals → b ∈ X.fs → b ∉ ch → s.heap.get? b = some o → H b = none → ∃ sl, h'.get? b = some { o with slots := sl }) (free : ∀ b o, b ∉ ch → s.heap.get? b = some o → H b = none → H' b = none)
  (there : ∀ b o, b ∉ ch → s.heap.get? b = some o → ∃ o', h'.get? b = some o')
  (tups : ∀ b xs, H b = some (.tup xs) → H' b = some (.tup xs)) (frzs : ∀ b o u, H b = some (.frz o u) → H' b = some (.frz o u)) (tbls : ∀ b ps, H b = some (.tbl ps) → ∃ more, H' b = some (.tbl (ps ++ more)))
  (ns : ∀ m, s.heap.Ns X.env.locals m → h'.Ns X.env.locals m) (hok : HOk X.prog X.w H' h') (hg : AllBare g') :
  Inv X pins σ H' { s with heap := h', gens := g', drawn := d', toks := t' } := by
 have neL : ∀ b o, X.s₀.heap.get? b = some o → b ≠ X.env.locals := fun b o e => Nat.ne_of_lt (Nat.lt_of_lt_of_le (Heap.lt_size e) I.ok.above)
 have neC : ∀ b o, X.s₀.heap.get? b = some o → b ∉ X.ex → b ∉ ch := fun b o e hx hb => by
  rcases (hch b hb).1 with z | z
  ·exact hx z
  ·exact absurd (Nat.lt_of_lt_of_le (Heap.lt_size e) z) (Nat.lt_irrefl _)
 have cellK : ∀ x c, X.env.cells.lookup x = some c → ∀ v, s.heap.IsCell c v → h'.IsCell c v := fun x c e v hq0 => by
  obtain ⟨o, ho, hd⟩ := hq0
  have nch : c ∉ ch := fun z => (hch c z).2.2.1 x c e rfl
  by_cases hc : c ∈ X.fs
  ·obtain ⟨sl, q⟩ := slot c o (I.cne x c e) hc nch ho (I.freeC x c e)
   exact ⟨_, q, hd⟩
  ·exact ⟨o, keep c o (I.cne x c e) hc nch ho (I.freeC x c e), hd⟩
 refine ⟨I.ok, I.os, hg, ⟨fun b o e n hb hx => ?_, fun b o e n hb hx => ?_, fun b o e n hx => ?_, fun b o e hx => ?_, fun b xs e => tups b xs (I.base.tups b xs e), fun b o xs e => frzs b o xs (I.base.frzs b o xs e), fun b ps e => ?_⟩, ?_, fun x c e => ?_, ?_, fun x c e => ?_, fun p hp => ?_, hok, I.len⟩
 ·exact keep b o (neL b o e) hb (neC b o e hx) (I.base.keep b o e n hb hx) (I.base.free b o e n hx)
 ·obtain ⟨sl, e1⟩ := I.base.slot b o e n hb hx
  obtain ⟨sl', e2⟩ := slot b _ (neL b o e) hb (neC b o e hx) e1 (I.base.free b o e n hx)
  exact ⟨sl', e2⟩
 ·obtain ⟨o', e1⟩ := I.base.there b o e hx
  exact free b o' (neC b o e hx) e1 (I.base.free b o e n hx)
 ·obtain ⟨o', e1⟩ := I.base.there b o e hx
  exact there b o' (neC b o e hx) e1
 ·obtain ⟨m1, e1⟩ := I.base.tbls b ps e
  obtain ⟨m2, e2⟩ := tbls b _ e1
  exact ⟨m1 ++ m2, by rw [e2, Array.append_assoc]⟩
 ·obtain ⟨m, hn, hl⟩ := I.loc
  refine ⟨m, ns m hn, fun i x v e1 e2 e3 => ?_⟩
  obtain ⟨u, r, l⟩ := hl i x v e1 e2 e3
  refine ⟨u, r, ?_⟩
  rcases l with l | ⟨k, c, e, z⟩
  ·exact .inl l
  ·exact .inr ⟨k, c, e, cellK x c e _ z⟩
 ·obtain ⟨v, z⟩ := I.cell x c e
  exact ⟨v, cellK x c e v z⟩
 ·obtain ⟨m, ⟨o, _, _, ho, _⟩, _⟩ := I.loc
  exact free _ o (fun z => (hch _ z).2.1 rfl) ho I.free
 ·obtain ⟨v, o, ho, hd⟩ := I.cell x c e
  exact free c o (fun z => (hch c z).2.2.1 x c e rfl) ho (I.freeC x c e)
 ·obtain ⟨e, n, ne, nf, d⟩ := I.pin p hp
  have nch : p.1 ∉ ch := fun z => (hch p.1 z).2.2.2 p hp rfl
  exact ⟨keep p.1 p.2 ne nf nch e n, free p.1 p.2 nch e n, ne, nf, d⟩
theorem Inv.un {t' : Nat} (I : Inv X pins σ H s) (u : Un X.fs [] H H' s.heap h') (hok : HOk X.prog X.w H' h') : Inv X pins σ H' { s with heap := h', toks := t' } := by
 obtain ⟨m, ⟨o, es, ep, ho, r⟩, _⟩ := id I.loc
 obtain ⟨sl, hL⟩ := u.any ho I.free (by simp)
 exact I.step (g' := s.gens) (d' := s.drawn) (ch := []) (fun _ z => nomatch z) (fun b o _ hb _ e n => u.keep b o e n hb (by simp)) (fun b o _ hb _ e n => u.slot b o e n hb (by simp)) (fun b o _ e n => u.free b o e n (by simp)) (fun b o _ e => u.there b o e (by simp)) u.tups u.frzs u.tbls (fun m' hm => by
  obtain ⟨o', es', ep', ho', r'⟩ := hm
  rw [ho] at ho'; cases ho'
  exact ⟨_, es', ep', hL, r'⟩) hok I.bare
theorem Inv.call {g' : Array GenState} {t' : Nat} {d' : Drawn} {ch : List Addr} (I : Inv X pins σ H s) (u : Un (frs X.stack) ch H H' s.heap h') (hok : HOk X.prog X.w H' h') (hg : AllBare g')
  (hch : ∀ b ∈ ch, (b ∈ X.ex ∨ X.s₀.heap.objs.size ≤ b) ∧ b ≠ X.env.locals ∧ (∀ x c, X.env.cells.lookup x = some c → c ≠ b) ∧ ∀ p ∈ X.pn ++ pins, p.1 ≠ b) :
  Inv X pins σ H' { s with heap := h', gens := g', drawn := d', toks := t' } := by
 obtain ⟨m, ⟨o, es, ep, ho, r⟩, _⟩ := id I.loc
 obtain ⟨sl, hL⟩ := u.any ho I.free fun z => (hch _ z).2.1 rfl
 exact I.step (ch := ch) hch (fun b o hL hb hc e n => u.keep b o e n (fun z => (List.mem_cons.mp (I.stkSub b z)).elim hL hb) hc) (fun b o _ _ hc e n => u.any e n hc) (fun b o hc e n => u.free b o e n hc) (fun b o hc e => u.there b o e hc) u.tups u.frzs u.tbls (fun m' hm => by
  obtain ⟨o', es', ep', ho', r'⟩ := hm
  rw [ho] at ho'; cases ho'
  exact ⟨_, es', ep', hL, r'⟩) hok hg
theorem Inv.turned {t' : Nat} {it : Addr} (I : Inv X pins σ H s) (k : ∀ b o, b ≠ it → s.heap.get? b = some o → h'.get? b = some o) (hn : H it = none) (hL : it ≠ X.env.locals)
  (h1 : it ∈ X.ex ∨ X.s₀.heap.objs.size ≤ it) (h2 : ∀ x c, X.env.cells.lookup x = some c → c ≠ it) (h3 : ∀ p ∈ X.pn ++ pins, p.1 ≠ it) : Inv X pins σ H { s with heap := h', toks := t' } := by
 have nit : ∀ b u, H b = some u → b ≠ it := fun b u e z => by rw [z, hn] at e; cases e
 refine I.step (g' := s.gens) (d' := s.drawn) (ch := [it]) (fun b hb => ?_) (fun b o _ _ hc e _ => k b o (fun z => hc (by simp [z])) e) (fun b o _ _ hc e _ => ⟨o.slots, k b o (fun z => hc (by simp [z])) e⟩) (fun _ _ _ _ n => n)
  (fun b o hc e => ⟨o, k b o (fun z => hc (by simp [z])) e⟩) (fun _ _ e => e) (fun _ _ _ e => e) (fun b ps e => ⟨#[], by rw [e]; simp⟩) (fun m hm => ?_) (fun b u e => ?_) I.bare
 ·have e : b = it := by simpa using hb
  subst e
  exact ⟨h1, hL, h2, h3⟩
 ·obtain ⟨o, es, ep, ho, r⟩ := hm
  exact ⟨o, es, ep, k _ o (Ne.symm hL) ho, r⟩
 ·refine (I.hok b u e).stay (fun c v hc q => k c v ?_ q) (fun _ q => q) fun _ _ q => q
  rcases hc with z | z
  ·rw [z]; exact nit b u e
  ·exact nit c _ z
theorem Inv.tok (I : Inv X pins σ H s) (t : Nat) : Inv X pins σ H { s with toks := t } := I.un (h' := s.heap) (t' := t) Un.refl I.hok
theorem Inv.kept {t' : Nat} (I : Inv X pins σ H s) (k : ∀ b u, s.heap.get? b = some u → h'.get? b = some u) : Inv X pins σ H { s with heap := h', toks := t' } := I.un (Un.kept k) (I.hok.kept k)
theorem Inv.laid {a : Addr} {o : HO} {t' : Nat} (I : Inv X pins σ H s) (k : ∀ b u, s.heap.get? b = some u → h'.get? b = some u) (hp : s.heap.objs.size ≤ a) (new : ObjOk X.prog X.w (upd H a o) h' a o) :
  Inv X pins σ (upd H a o) { s with heap := h', toks := t' } := I.un (Un.laid k hp (I.hok.fresh hp)) (I.hok.laid k hp new)
theorem Inv.write {x e : Addr} {o : HO} {t' : Nat} (I : Inv X pins σ H s) (mu : Mut (H x)) (he : e = x ∨ H e = some (.own x)) (k : ∀ b u, b ≠ e → s.heap.get? b = some u → h'.get? b = some u) (heo : ∃ u, h'.get? e = some u)
  (new : ObjOk X.prog X.w (upd H x o) h' x o) : Inv X pins σ (upd H x o) { s with heap := h', toks := t' } := I.un (Un.write mu he k heo) (I.hok.write mu he k heo new)
theorem Inv.pins_of {pins' : List (Addr × Obj)} (I : Inv X pins σ H s) (h : ∀ p ∈ pins', s.heap.get? p.1 = some p.2 ∧ H p.1 = none ∧ p.1 ≠ X.env.locals ∧ p.1 ∉ X.fs ∧ ∀ v, p.2.data ≠ .cell v) : Inv X pins' σ H s :=
 ⟨I.ok, I.os, I.bare, I.base, I.loc, I.cell, I.free, I.freeC, fun p hp => (List.mem_append.mp hp).elim (fun z => I.pin p (List.mem_append_left _ z)) (h p), I.hok, I.len⟩
theorem nodup_ix {N : List Str} (hN : N.Nodup) {i j : Nat} {x : Str} (a : N[i]? = some x) (b : N[j]? = some x) : i = j := by
 obtain ⟨h1, e1⟩ := List.getElem?_eq_some_iff.mp a
 obtain ⟨h2, e2⟩ := List.getElem?_eq_some_iff.mp b
 exact (List.getElem_inj hN).mp (e1.trans e2.symm)
theorem store_ok2 {M : Model} {A : Around} {E : Value → Shared → Prop} {i : Nat} {x : Str} {v : V} {u : Value} {Q : Unit → Shared → Prop} (I : Inv X pins σ H s) (hN : X.N.Nodup) (hi : X.N[i]? = some x) (hx : Loc X.env.scope x) (r : RelV v u)
  (h : ∀ s', Inv X pins (σ.set i (some v)) H s' → (∃ a, Heap.SameBut a s.heap s'.heap ∧ (a = X.env.locals ∨ X.env.cells.lookup x = some a)) → Q () s') (hf : X.fn x = true ∨ X.env.scope.names.lookup x = some .local := by first | exact .inl rfl | exact .inr rfl | assumption) : wpAny M A (storeName X.env x u) Q E s := by
 obtain ⟨m, hn, hl⟩ := id I.loc
 have hcls : (X.env.scope.kind == .class || (X.env.scope.kind == .module && X.env.locals != X.env.globals)) = false := by rw [I.ok.kind]; rfl
 have hiσ : i < σ.length := by rw [I.len]; exact (List.getElem?_eq_some_iff.mp hi).1
 have cne := I.cne
 have tracked : ∀ {a : Addr} {h' : Heap}, (∃ o, s.heap.get? a = some o ∧ H a = none) → Heap.SameBut a s.heap h' → HOk X.prog X.w H h' := fun {a h'} ha hs b ob e => by
  obtain ⟨_, _, hfree⟩ := ha
  refine (I.hok b ob e).stay (fun c w' hc q => (hs.2 c ?_).trans q) (fun _ q => q) fun _ _ q => q
  rintro rfl
  rcases hc with rfl | hc
  ·rw [hfree] at e; cases e
  ·rw [hfree] at hc; cases hc
 rcases hx with hk | hk
 ·refine wpAny_storeName_local hk hn (fun h' hn' hs => ?_) hcls
  obtain ⟨oL, _, _, hoL, _⟩ := id hn
  refine h _ ⟨I.ok, I.os, I.bare, ⟨fun b o e n hb hx => ?_, fun b o e n hb hx => ?_, I.base.free, fun b o e hx => ?_, I.base.tups, I.base.frzs, I.base.tbls⟩, ⟨_, hn', fun j y v' e1 e2 e3 => ?_⟩, fun y c e => ?_, I.free, I.freeC, fun p hp => ?_, tracked ⟨oL, hoL, I.free⟩ hs, by simpa using I.len⟩ ⟨_, hs, .inl rfl⟩
  ·exact (hs.2 b (Nat.ne_of_lt (Nat.lt_of_lt_of_le (Heap.lt_size e) I.ok.above))).trans (I.base.keep b o e n hb hx)
  ·obtain ⟨sl, e1⟩ := I.base.slot b o e n hb hx
   exact ⟨sl, (hs.2 b (Nat.ne_of_lt (Nat.lt_of_lt_of_le (Heap.lt_size e) I.ok.above))).trans e1⟩
  ·obtain ⟨o', e1⟩ := I.base.there b o e hx
   exact ⟨o', (hs.2 b (Nat.ne_of_lt (Nat.lt_of_lt_of_le (Heap.lt_size e) I.ok.above))).trans e1⟩
  ·by_cases hj : j = i
   ·subst hj
    rw [hi] at e1; cases e1
    rw [List.getElem?_set_self hiσ] at e2
    cases e2
    exact ⟨u, r, .inl ⟨hk, by simp⟩⟩
   ·rw [List.getElem?_set_ne (Ne.symm hj)] at e2
    obtain ⟨u', r', q⟩ := hl j y v' e1 e2 e3
    refine ⟨u', r', ?_⟩
    rcases q with ⟨k, e⟩ | ⟨k, c, e, z⟩
    ·refine .inl ⟨k, ?_⟩
     have : y ≠ x := fun e => hj (nodup_ix hN e1 (e ▸ hi))
     simp [this, e]
    ·exact .inr ⟨k, c, e, z.sameBut hs (cne y c e)⟩
  ·obtain ⟨w', z⟩ := I.cell y c e
   exact ⟨w', z.sameBut hs (cne y c e)⟩
  ·obtain ⟨e, n, ne, nf, d⟩ := I.pin p hp
   exact ⟨(hs.2 p.1 ne).trans e, n, ne, nf, d⟩
 ·have hfn : X.fn x = true := by
   rcases hf with z | z
   ·exact z
   ·rw [z] at hk; cases hk
  obtain ⟨c, hc⟩ := I.ok.has x (.inl hk)
  obtain ⟨w', z⟩ := I.cell x c hc
  refine wpAny_storeName_cell I.ok.kind hk hc z (fun h' hc' hs => ?_)
  obtain ⟨oc, hoc, hocd⟩ := id z
  refine h { s with heap := h' } ⟨I.ok, I.os, I.bare, ⟨fun b o e n hb hx => ?_, fun b o e n hb hx => ?_, I.base.free, fun b o e hx => ?_, I.base.tups, I.base.frzs, I.base.tbls⟩, ⟨m, hn.sameBut hs (Ne.symm (cne x c hc)), fun j y v' e1 e2 e3 => ?_⟩, fun y c' e => ?_, I.free, I.freeC, fun p hp => ?_, tracked ⟨oc, hoc, I.freeC x c hc⟩ hs, by simpa using I.len⟩ ⟨c, hs, .inr hc⟩
  ·exact (hs.2 b (Nat.ne_of_lt (Nat.lt_of_lt_of_le (Heap.lt_size e) (I.ok.cab x c hfn hc)))).trans (I.base.keep b o e n hb hx)
  ·obtain ⟨sl, e1⟩ := I.base.slot b o e n hb hx
   exact ⟨sl, (hs.2 b (Nat.ne_of_lt (Nat.lt_of_lt_of_le (Heap.lt_size e) (I.ok.cab x c hfn hc)))).trans e1⟩
  ·obtain ⟨o', e1⟩ := I.base.there b o e hx
   exact ⟨o', (hs.2 b (Nat.ne_of_lt (Nat.lt_of_lt_of_le (Heap.lt_size e) (I.ok.cab x c hfn hc)))).trans e1⟩
  ·by_cases hj : j = i
   ·subst hj
    rw [hi] at e1; cases e1
    rw [List.getElem?_set_self hiσ] at e2
    cases e2
    exact ⟨u, r, .inr ⟨.inl hk, c, hc, hc'⟩⟩
   ·rw [List.getElem?_set_ne (Ne.symm hj)] at e2
    obtain ⟨u', r', q⟩ := hl j y v' e1 e2 e3
    refine ⟨u', r', ?_⟩
    rcases q with q | ⟨k, c', e, z'⟩
    ·exact .inl q
    ·refine .inr ⟨k, c', e, z'.sameBut hs ?_⟩
     rintro rfl
     exact hj (nodup_ix hN e1 (I.ok.inj _ _ _ e hc ▸ hi))
  ·by_cases hcc : c' = c
   ·subst hcc; exact ⟨_, hc'⟩
   ·obtain ⟨w2, z2⟩ := I.cell y c' e
    exact ⟨w2, z2.sameBut hs hcc⟩
  ·obtain ⟨e, n, ne, nf, d⟩ := I.pin p hp
   refine ⟨(hs.2 p.1 ?_).trans e, n, ne, nf, d⟩
   intro q
   rw [q, hoc] at e
   have q' : oc = p.2 := Option.some.inj e
   exact d w' (by rw [← q']; exact hocd)
theorem store_ok {M : Model} {A : Around} {E : Value → Shared → Prop} {i : Nat} {x : Str} {v : V} {u : Value} {Q : Unit → Shared → Prop} (I : Inv X pins σ H s) (hN : X.N.Nodup) (hi : X.N[i]? = some x) (hx : Loc X.env.scope x) (r : RelV v u)
  (h : ∀ s', Inv X pins (σ.set i (some v)) H s' → Q () s') (hf : X.fn x = true ∨ X.env.scope.names.lookup x = some .local := by first | exact .inl rfl | exact .inr rfl | assumption) : wpAny M A (storeName X.env x u) Q E s :=
 store_ok2 I hN hi hx r (fun s' I' _ => h s' I') hf
theorem Inv.call' {s' : Shared} {ch : List Addr} (I : Inv X pins σ H s) (ho : s'.os = s.os) (u : Un (frs X.stack) ch H H' s.heap s'.heap) (hok : HOk X.prog X.w H' s'.heap) (hg : AllBare s'.gens)
  (hch : ∀ b ∈ ch, (b ∈ X.ex ∨ X.s₀.heap.objs.size ≤ b) ∧ b ≠ X.env.locals ∧ (∀ x c, X.env.cells.lookup x = some c → c ≠ b) ∧ ∀ p ∈ X.pn ++ pins, p.1 ≠ b) : Inv X pins σ H' s' := by
 obtain ⟨h', g', d', t', o'⟩ := s'
 have e : o' = s.os := ho
 subst e
 exact I.call (g' := g') (t' := t') (d' := d') u hok hg hch
end
noncomputable abbrev XK := Value → Option Addr → Hp → Prop
noncomputable abbrev St := List (Option V)
noncomputable abbrev VK := V → Hp → Prop
noncomputable abbrev TE := St → Hp → VK → Prop
noncomputable abbrev TT := St → Hp → (Bool → Hp → Prop) → Prop
noncomputable abbrev TA := St → Hp → (List V → Hp → Prop) → Prop
structure Ends where
 nx : St → Hp → Prop
 rt : VK
 bk : St → Hp → Prop := fun _ _ => False
 ct : St → Hp → Prop := fun _ _ => False
noncomputable abbrev TS := Ends → St → Hp → Prop
noncomputable def EP (X : Cx) (pins : List (Addr × Obj)) (σ : St) (Q : VK) (u : Value) (s' : Shared) : Prop := ∃ v H', Inv X pins σ H' s' ∧ RelV v u ∧ Q v H'
noncomputable def TP (X : Cx) (pins : List (Addr × Obj)) (σ : St) (Q : Bool → Hp → Prop) (b : Bool) (s' : Shared) : Prop := ∃ H', Inv X pins σ H' s' ∧ Q b H'
noncomputable def AP (X : Cx) (pins : List (Addr × Obj)) (σ : St) (Q : List V → Hp → Prop) (us : List Value) (s' : Shared) : Prop := ∃ vs H', Inv X pins σ H' s' ∧ Vals vs us ∧ Q vs H'
noncomputable def SP (X : Cx) (pins : List (Addr × Obj)) (D : Ends) (f : Flow) (s' : Shared) : Prop :=
 match f with
 | .next => ∃ σ' H', Inv X pins σ' H' s' ∧ D.nx σ' H'
 | .brk => ∃ σ' H', Inv X pins σ' H' s' ∧ D.bk σ' H'
 | .cont => ∃ σ' H', Inv X pins σ' H' s' ∧ D.ct σ' H'
 | .ret u => ∃ v σ' H', Inv X pins σ' H' s' ∧ RelV v u ∧ D.rt v H'
noncomputable def PE (X : Cx) (e : Expr) (t : TE) : Prop :=
 ∀ (pins : List (Addr × Obj)) (s : Shared) (σ : St) (H : Hp) (Q : VK), Inv X pins σ H s → t σ H Q → wpAny (model X.prog X.w) X.A (eval e X.env) (EP X pins σ Q) X.xe s
noncomputable def PT (X : Cx) (e : Expr) (t : TT) : Prop :=
 ∀ (pins : List (Addr × Obj)) (s : Shared) (σ : St) (H : Hp) (Q : Bool → Hp → Prop), Inv X pins σ H s → t σ H Q → wpAny (model X.prog X.w) X.A (isTrue e X.env (eval e X.env)) (TP X pins σ Q) X.xe s
noncomputable def PW (X : Cx) (e : Expr) (t : TT) : Prop :=
 ∀ (whole : Sem Value) (pins : List (Addr × Obj)) (s : Shared) (σ : St) (H : Hp) (Q : Bool → Hp → Prop), Inv X pins σ H s → t σ H Q → wpAny (model X.prog X.w) X.A (isTrue e X.env whole) (TP X pins σ Q) X.xe s
theorem PW.pt {X : Cx} {e : Expr} {t : TT} (h : PW X e t) : PT X e t := h _
noncomputable def PA (X : Cx) (es : List Expr) (t : TA) : Prop :=
 ∀ (pos : Pos) (pins : List (Addr × Obj)) (s : Shared) (σ : St) (H : Hp) (Q : List V → Hp → Prop), Inv X pins σ H s → t σ H Q → wpAny (model X.prog X.w) X.A (spliced (backTo pos (starEach es X.env))) (AP X pins σ Q) X.xe s
noncomputable def PS (X : Cx) (st : Stmt) (t : TS) : Prop :=
 ∀ (pins : List (Addr × Obj)) (s : Shared) (σ : St) (H : Hp) (D : Ends), Inv X pins σ H s → t D σ H → wpAny (model X.prog X.w) X.A (exec st X.env) (SP X pins D) X.xe s
noncomputable def PSs (X : Cx) (st : List Stmt) (t : TS) : Prop :=
 ∀ (pins : List (Addr × Obj)) (s : Shared) (σ : St) (H : Hp) (D : Ends), Inv X pins σ H s → t D σ H → wpAny (model X.prog X.w) X.A (execs st X.env) (SP X pins D) X.xe s
theorem thn {α : Type} {t : Sem α} {Q Q' : α → Shared → Prop} {M : Model} {A : Around} {E : Value → Shared → Prop} {s : Shared} (h : wpAny M A t Q E s) (hQ : ∀ a s, Q a s → Q' a s) : wpAny M A t Q' E s := wpAny_mono h hQ fun _ _ x => x
end L2
namespace L2
open PySem PySem.Spec PyProof.Rows
section
variable {X : Cx}
theorem bin {a b : Expr} {ta tb : TE} (ha : PE X a ta) (hb : PE X b tb) {pins : List (Addr × Obj)} {s : Shared} {σ : St} {H : Hp} {R : V → V → Hp → Prop} (I : Inv X pins σ H s) (h : ta σ H fun x H1 => tb σ H1 fun y H2 => R x y H2)
  {α : Type} {Q : α → Shared → Prop} {f : Value → Value → Sem α}
  (hf : ∀ v u s2 x y H2, Inv X pins σ H2 s2 → RelV x v → RelV y u → R x y H2 → wpAny (model X.prog X.w) X.A (f v u) Q X.xe s2) :
  wpAny (model X.prog X.w) X.A (eval a X.env) (fun v s₁ => wpAny (model X.prog X.w) X.A (eval b X.env) (fun u s₂ => wpAny (model X.prog X.w) X.A (f v u) Q X.xe s₂) X.xe s₁) X.xe s := by
 refine thn (ha pins s σ H _ I h) fun v s1 ⟨x, H1, I1, r1, q1⟩ => ?_
 refine thn (hb pins s1 σ H1 _ I1 q1) fun u s2 ⟨y, H2, I2, r2, q2⟩ => ?_
 exact hf v u s2 x y H2 I2 r1 r2 q2
noncomputable def tVar (i : Nat) : TE := fun σ H Q => ∃ v, σ[i]? = some (some v) ∧ Q v H
noncomputable def tC (v : V) : TE := fun _ H Q => Q v H
theorem pe_var {i : Nat} {x : Str} {pos : Pos} (hN : X.N[i]? = some x) (hv : Vis X.env.scope x) (hd : (x == ("__debug__" : Str)) = false := by decide) (hcd : (x == ("__classdict__" : Str)) = false := by decide) : PE X (.Name x pos) (tVar i) := by
 intro pins s σ H Q I h
 obtain ⟨v, e, h⟩ := h
 obtain ⟨m, hn, hl⟩ := I.loc
 obtain ⟨u, r, l⟩ := hl i x v hN e hv
 have fin : EP X pins σ Q u s := ⟨v, H, I, r, h⟩
 rcases l with ⟨hk, hm⟩ | ⟨hk, c, hc, hcell⟩
 ·exact wpAny_Name (wpAny_loadName_local I.ok.kind hk hn hm fin) hd
 ·rcases hk with hk | hk
  ·exact wpAny_Name (wpAny_loadName_cell I.ok.kind hk hc hcell fin) hd
  ·exact wpAny_Name (wpAny_loadName_free I.ok.kind hk hc hcell fin hcd) hd
theorem pe_int {i j pos} : PE X (.Constant (.int i) j pos) (tC (.int i)) := fun _ _ _ H _ I h => wpAny_Constant_int ⟨.int i, H, I.tok _, ⟨_, rfl⟩, h⟩
theorem pe_bl {b j pos} : PE X (.Constant (.bool b) j pos) (tC (.bl b)) := fun _ _ _ H _ I h => Constant_bool ⟨.bl b, H, I, rfl, h⟩
theorem pe_str {x j pos} : PE X (.Constant (.str x) j pos) (tC (.str x)) := fun _ _ _ H _ I h => Calls.Constant_str ⟨.str x, H, I.tok _, ⟨_, rfl⟩, h⟩
noncomputable def Gl (X : Cx) (x : Str) : Prop := X.env.kindOf x = some .globalImplicit
theorem ld_glob {E : Value → Shared → Prop} {pins : List (Addr × Obj)} {s : Shared} {σ : St} {H : Hp} {x : Str} {u : Value} {pos : Pos} {Q : Value → Shared → Prop} (I : Inv X pins σ H s) (hg : Gl X x) (hm : X.mg x = some u) (h : Q u s)
  (hd : (x == ("__debug__" : Str)) = false := by decide) : wpAny (model X.prog X.w) X.A (eval (.Name x pos) X.env) Q E s :=
 Calls.Name_function_global I.ok.kind hg (Calls.loadGlobal_global (by rw [I.ok.glob]; exact I.mod.glob.keeps I.bk) hm h) hd
theorem ld_blt {E : Value → Shared → Prop} {pins : List (Addr × Obj)} {s : Shared} {σ : St} {H : Hp} {x : Str} {u : Value} {pos : Pos} {Q : Value → Shared → Prop} (I : Inv X pins σ H s) (hg : Gl X x) (hm : X.mg x = none) (hv : bootBuiltins x = some u) (h : Q u s)
  (hn : x ≠ "__name__" := by decide) (hd : (x == ("__debug__" : Str)) = false := by decide) : wpAny (model X.prog X.w) X.A (eval (.Name x pos) X.env) Q E s := by
 obtain ⟨mb, h1, h2⟩ := I.mod.blt
 exact Calls.Name_function_global I.ok.kind hg (Calls.loadGlobal_builtin (by rw [I.ok.glob]; exact I.mod.glob.keeps I.bk) hm (by rw [I.ok.blt]; exact h1.keeps I.bk) ((h2 x hn).trans hv) h) hd
theorem pe_bltn {x : Str} {v : V} {u : Value} {pos : Pos} (hg : Gl X x) (hm : X.mg x = none) (hv : bootBuiltins x = some u) (r : RelV v u) (hn : x ≠ "__name__" := by decide) (hd : (x == ("__debug__" : Str)) = false := by decide) : PE X (.Name x pos) (tC v) :=
 fun _ _ _ H _ I h => ld_blt I hg hm hv ⟨v, H, I, r, h⟩ hn hd
variable {a b : Expr} {ta tb : TE} {pos : Pos}
noncomputable def PC (X : Cx) (op : CmpOp) (a b : Expr) (t : TE) : Prop :=
 ∀ (pins : List (Addr × Obj)) (s : Shared) (σ : St) (H : Hp) (Q : VK), Inv X pins σ H s → t σ H Q →
  wpAny (model X.prog X.w) X.A (eval a X.env) (fun v s₁ => wpAny (model X.prog X.w) X.A (eval b X.env) (fun u s₂ => wpAny (model X.prog X.w) X.A (compareOp op v u) (EP X pins σ Q) X.xe s₂) X.xe s₁) X.xe s
theorem nobehind (b : Expr) {op : CmpOp} (h : op ≠ .In) (h2 : op ≠ .NotIn) : behindInMarks op b = false := by
 have e1 : (op == CmpOp.In) = false := by cases op <;> first | rfl | exact absurd rfl h
 have e2 : (op == CmpOp.NotIn) = false := by cases op <;> first | rfl | exact absurd rfl h2
 cases b <;> simp [behindInMarks, e1, e2]
noncomputable def tB (t : TE) : TT := fun σ H Q => t σ H fun x H1 => ∃ c, x = .bl c ∧ Q c H1
theorem pt_cmp {op : CmpOp} {t : TE} (h : PC X op a b t) (h1 : behindInMarks op b = false := by first | exact nobehind _ (by decide) (by decide) | rfl) : PT X (.Compare a [op] [b] pos) (tB t) := by
 intro pins s σ H Q I hw
 refine wpAny_isTrue_Compare1 (thn (h pins s σ H _ I hw) fun v s1 h1 => thn h1 fun u s2 h2 => thn h2 fun c s3 ⟨x, H1, I1, r1, q1⟩ => ?_) h1
 obtain ⟨d, rfl, q⟩ := q1
 cases r1
 exact wpAny_truthy_bool ⟨H1, I1, q⟩
theorem pt_val {e : Expr} {t : TE} (h : PE X e t) (he : ∀ whole, isTrue e X.env whole = (do let v ← whole; standAt e.pos; holding [v] (truthy v)) := by intro _; rfl) : PT X e (tB t) := by
 intro pins s σ H Q I hw
 refine isTrue_plain (thn (h pins s σ H _ I hw) fun v s1 ⟨x, H1, I1, r1, q1⟩ => ?_) (he _)
 obtain ⟨d, rfl, q⟩ := q1
 cases r1
 exact wpAny_truthy_bool ⟨H1, I1, q⟩
variable {tA tB' : TT} {rest : List Expr}
noncomputable def tAnd (t u : TT) : TT := fun σ H Q => t σ H fun c H1 => if c = true then u σ H1 Q else Q false H1
noncomputable def tOr (t u : TT) : TT := fun σ H Q => t σ H fun c H1 => if c = true then Q true H1 else u σ H1 Q
noncomputable def tNot (t : TT) : TT := fun σ H Q => t σ H fun c H1 => Q (!c) H1
theorem pw_and1 (ha : PT X a tA) : PW X (.BoolOp .And [a] pos) tA := by
 intro wh pins s σ H Q I h
 refine isTrue_and (thn (ha pins s σ H Q I h) fun c s1 e => ?_)
 cases c with
 | true => exact isTrue_and_nil e
 | false => exact e
theorem pw_or1 (ha : PT X a tA) : PW X (.BoolOp .Or [a] pos) tA := by
 intro wh pins s σ H Q I h
 refine isTrue_or (thn (ha pins s σ H Q I h) fun c s1 e => ?_)
 cases c with
 | false => exact isTrue_or_nil e
 | true => exact e
theorem pw_and (ha : PT X a tA) (hb : PW X (.BoolOp .And (b :: rest) pos) tB') : PW X (.BoolOp .And (a :: b :: rest) pos) (tAnd tA tB') := by
 intro wh pins s σ H Q I h
 refine isTrue_and (thn (ha pins s σ H _ I h) fun c s1 ⟨H1, I1, q1⟩ => ?_)
 cases c with
 | true => exact hb wh pins s1 σ H1 Q I1 q1
 | false => exact ⟨H1, I1, q1⟩
theorem pw_or (ha : PT X a tA) (hb : PW X (.BoolOp .Or (b :: rest) pos) tB') : PW X (.BoolOp .Or (a :: b :: rest) pos) (tOr tA tB') := by
 intro wh pins s σ H Q I h
 refine isTrue_or (thn (ha pins s σ H _ I h) fun c s1 ⟨H1, I1, q1⟩ => ?_)
 cases c with
 | true => exact ⟨H1, I1, q1⟩
 | false => exact hb wh pins s1 σ H1 Q I1 q1
theorem pt_not (ha : PT X a tA) : PT X (.UnaryOp .Not a pos) (tNot tA) := by
 intro pins s σ H Q I h
 exact isTrue_not (ha pins s σ H (fun c H1 => Q (!c) H1) I h)
end
end L2
namespace L2
open PySem PySem.Spec PyProof.Rows
noncomputable def SqL (K : PySem.W.Frag) (H : Hp) (a : Addr) (xs : List V) : Prop :=
 Rd H a (.lst xs) ∨
  ∃ (o : Obj) (its : Array Value) (n : Nat), K.lookup a = some o ∧ o.cls = .type "list" ∧ o.dict = none ∧ o.data = .seq its n ∧ its.size ≤ sizeLine ∧ Vals xs its.toList
noncomputable def SqT (K : PySem.W.Frag) (H : Hp) (a : Addr) (xs : List V) : Prop :=
 Rd H a (.tup xs) ∨
  ∃ (o : Obj) (its : Array Value) (n : Nat), K.lookup a = some o ∧ o.cls = .type "tuple" ∧ o.data = .seq its n ∧ its.size ≤ sizeLine ∧ Vals xs its.toList
noncomputable def absV : Value → Option V
 | .none => some .non
 | .bool b => some (.bl b)
 | .int i _ => some (.int i)
 | .str x _ => some (.str x)
 | .bytes b _ => some (.byt b)
 | .float b _ => some (.flt b)
 | .ref a => some (.ref a)
 | .type n => some (.ty n)
 | _ => none
theorem RelV.abs {x : V} {u : Value} (r : RelV x u) : absV u = some x := by
 cases x with
 | non => cases r; rfl
 | bl _ => cases r; rfl
 | int _ => obtain ⟨t, rfl⟩ := r; rfl
 | str _ => obtain ⟨t, rfl⟩ := r; rfl
 | byt _ => obtain ⟨t, rfl⟩ := r; rfl
 | flt _ => obtain ⟨t, rfl⟩ := r; rfl
 | ref _ => cases r; rfl
 | ty _ => cases r; rfl
theorem RelV.inj {x y : V} {u : Value} (r : RelV x u) (q : RelV y u) : x = y := Option.some.inj (r.abs.symm.trans q.abs)
theorem Vals.inj : ∀ {xs ys : List V} {us : List Value}, Vals xs us → Vals ys us → xs = ys
 | _, _, _, .nil, .nil => rfl
 | _, _, _, .cons r t, .cons r' t' => by rw [r.inj r', Vals.inj t t']
section
variable {X : Cx} {pins : List (Addr × Obj)} {σ : St} {H : Hp} {s : Shared} {a : Addr} {xs ys : List V}
theorem SqL.of {K : PySem.W.Frag} (h : H a = some (.lst xs)) : SqL K H a xs := .inl (.inl h)
theorem SqT.of {K : PySem.W.Frag} (h : H a = some (.tup xs)) : SqT K H a xs := .inl (.inl h)
theorem Inv.list (I : Inv X pins σ H s) (h : SqL X.K H a xs) : ∃ its : List Value, Vals xs its ∧ PlainL s.heap a its.toArray ∧ xs.length ≤ sizeLine := by
 rcases h with h | ⟨o, its, n, hk, hc, hd, hs, hz, r⟩
 ·obtain ⟨z, its, n, r, e⟩ := h.ok I.hok
  exact ⟨its, r, ⟨_, n, e, rfl, rfl, rfl⟩, z⟩
 ·refine ⟨its.toList, r, ⟨o, n, I.kIn a o hk, hc, hd, by simpa using hs⟩, ?_⟩
  have e := r.length
  simp only [Array.length_toList] at e
  omega
theorem Inv.tuple (I : Inv X pins σ H s) (h : SqT X.K H a xs) : ∃ its : List Value, Vals xs its ∧ IsTup s.heap a its.toArray ∧ xs.length ≤ sizeLine := by
 rcases h with h | ⟨o, its, n, hk, hc, hs, hz, r⟩
 ·obtain ⟨z, its, r, p⟩ := h.ok I.hok
  exact ⟨its, r, p, z⟩
 ·refine ⟨its.toList, r, ⟨o, I.kIn a o hk, hc, n, by simpa using hs⟩, ?_⟩
  have e := r.length
  simp only [Array.length_toList] at e
  omega
theorem Inv.list_inj (I : Inv X pins σ H s) (h : SqL X.K H a xs) (h' : SqL X.K H a ys) : xs = ys := by
 obtain ⟨its, r, ⟨o, n, e, _, _, d⟩, _⟩ := I.list h
 obtain ⟨its', r', ⟨o', n', e', _, _, d'⟩, _⟩ := I.list h'
 rw [e] at e'; cases e'
 rw [d] at d'
 injection d' with d1 _
 have : its = its' := by simpa using congrArg Array.toList d1
 subst this
 exact r.inj r'
theorem Inv.tuple_inj (I : Inv X pins σ H s) (h : SqT X.K H a xs) (h' : SqT X.K H a ys) : xs = ys := by
 obtain ⟨its, r, ⟨o, e, _, n, d⟩, _⟩ := I.tuple h
 obtain ⟨its', r', ⟨o', e', _, n', d'⟩, _⟩ := I.tuple h'
 rw [e] at e'; cases e'
 rw [d] at d'
 injection d' with d1 _
 have : its = its' := by simpa using congrArg Array.toList d1
 subst this
 exact r.inj r'
end
noncomputable abbrev Cx.wish (X : Cx) (E : Value → Shared → Prop) : Cx := { X with xe := E }
noncomputable abbrev Cx.nox (X : Cx) : Cx := X.wish fun _ _ => False
theorem Cx.Ok.wish {X : Cx} (ok : X.Ok) (E : Value → Shared → Prop) : (X.wish E).Ok :=
 ⟨ok.mod, ok.kind, ok.glob, ok.blt, ok.above, ok.inj, ok.has, ok.cab, ok.hd, ok.frames, ok.stk, ok.exf, ok.bs, ok.bsz, ok.noex, ok.exfs, ok.funs, ok.frf⟩
theorem Cx.Ok.unwish {X : Cx} {E : Value → Shared → Prop} (ok : (X.wish E).Ok) : X.Ok :=
 ⟨ok.mod, ok.kind, ok.glob, ok.blt, ok.above, ok.inj, ok.has, ok.cab, ok.hd, ok.frames, ok.stk, ok.exf, ok.bs, ok.bsz, ok.noex, ok.exfs, ok.funs, ok.frf⟩
section
variable {X : Cx} {pins : List (Addr × Obj)} {σ : St} {H : Hp} {s : Shared} {E : Value → Shared → Prop}
theorem Inv.wish (I : Inv X pins σ H s) (E : Value → Shared → Prop) : Inv (X.wish E) pins σ H s := ⟨I.ok.wish E, I.os, I.bare, I.base, I.loc, I.cell, I.free, I.freeC, I.pin, I.hok, I.len⟩
theorem Inv.unwish (I : Inv (X.wish E) pins σ H s) : Inv X pins σ H s := ⟨I.ok.unwish, I.os, I.bare, I.base, I.loc, I.cell, I.free, I.freeC, I.pin, I.hok, I.len⟩
theorem SP.unwish {D : Ends} {f : Flow} {s' : Shared} (h : SP (X.wish E) pins D f s') : SP X pins D f s' := by
 cases f with
 | next => obtain ⟨σ', H', I, q⟩ := h; exact ⟨σ', H', I.unwish, q⟩
 | brk => obtain ⟨σ', H', I, q⟩ := h; exact ⟨σ', H', I.unwish, q⟩
 | cont => obtain ⟨σ', H', I, q⟩ := h; exact ⟨σ', H', I.unwish, q⟩
 | ret u => obtain ⟨v, σ', H', I, r, q⟩ := h; exact ⟨v, σ', H', I.unwish, r, q⟩
theorem PE.nox {e : Expr} {t : TE} (h : PE X.nox e t) : PE X e t := fun pins s σ H Q I hw =>
 wpAny_mono (h pins s σ H Q (I.wish _) hw) (fun _ _ ⟨v, H', I', r, q⟩ => ⟨v, H', I'.unwish, r, q⟩) fun _ _ z => False.elim z
theorem PT.nox {e : Expr} {t : TT} (h : PT X.nox e t) : PT X e t := fun pins s σ H Q I hw =>
 wpAny_mono (h pins s σ H Q (I.wish _) hw) (fun _ _ ⟨H', I', q⟩ => ⟨H', I'.unwish, q⟩) fun _ _ z => False.elim z
theorem PSs.nox {st : List Stmt} {t : TS} (h : PSs X.nox st t) : PSs X st t := fun pins s σ H D I hw =>
 wpAny_mono (h pins s σ H D (I.wish _) hw) (fun _ _ q => q.unwish) fun _ _ z => False.elim z
end
section
variable {X : Cx} {st : Stmt} {rest : List Stmt} {t u : TS} {e : Expr} {te : TE} {pos : Pos}
noncomputable def tNext : TS := fun D σ H => D.nx σ H
noncomputable def tSeq (t u : TS) : TS := fun D σ H => t { D with nx := u D } σ H
theorem pss_nil : PSs X [] tNext := fun _ _ σ H _ I h => wpAny_execs_nil ⟨σ, H, I, h⟩
theorem pss_cons (h1 : PS X st t) (h2 : PSs X rest u) : PSs X (st :: rest) (tSeq t u) := by
 intro pins s σ H D I h
 refine wpAny_execs_cons (thn (h1 pins s σ H { D with nx := u D } I h) fun f s1 q => ?_)
 cases f with
 | next =>
  obtain ⟨σ', H', I', q⟩ := q
  exact h2 pins s1 σ' H' D I' q
 | ret v => exact q
 | brk => exact q
 | cont => exact q
theorem pss_one (h1 : PS X st t) : PSs X [st] t := by
 intro pins s σ H D I h
 refine wpAny_execs_cons (thn (h1 pins s σ H D I h) fun f s1 q => ?_)
 cases f with
 | next => exact wpAny_execs_nil q
 | ret v => exact q
 | brk => exact q
 | cont => exact q
theorem Inv.quiet {pins : List (Addr × Obj)} {σ : St} {H : Hp} {s : Shared} (I : Inv X pins σ H s) : interactive X.env = false := by simp [interactive, I.ok.kind]
noncomputable def tDrop (te : TE) : TS := fun D σ H => te σ H fun _ H1 => D.nx σ H1
theorem ps_expr (he : PE X e te) (hs : swapsWith e none pos.line X.env = pure false := by rfl) : PS X (.Expr e pos) (tDrop te) := by
 intro pins s σ H D I h
 exact wpAny_Expr_any (thn (he pins s σ H _ I h) fun v s1 ⟨x, H1, I1, r1, q1⟩ => ⟨σ, H1, I1, q1⟩) I.quiet hs
noncomputable def tRet (te : TE) : TS := fun D σ H => te σ H D.rt
theorem ps_ret (he : PE X e te) : PS X (.Return (some e) pos) (tRet te) := by
 intro pins s σ H D I h
 exact wpAny_Return_some (thn (he pins s σ H _ I h) fun v s1 ⟨x, H1, I1, r1, q1⟩ => ⟨x, σ, H1, I1, r1, q1⟩)
noncomputable def tIfS (c : TT) (t u : TS) : TS := fun D σ H => c σ H fun b H1 => if b = true then t D σ H1 else u D σ H1
theorem ps_if {c : Expr} {a b : List Stmt} {tc : TT} (hc : PT X c tc) (ha : PSs X a t) (hb : PSs X b u) : PS X (.If c a b pos) (tIfS tc t u) := by
 intro pins s σ H D I h
 refine wpAny_If (thn (hc pins s σ H _ I h) fun d s1 ⟨H1, I1, q1⟩ => ?_)
 cases d with
 | true => exact ha pins s1 σ H1 D I1 q1
 | false => exact hb pins s1 σ H1 D I1 q1
noncomputable def tNever : TS := fun _ _ _ => False
theorem pss_never {sts : List Stmt} : PSs X sts tNever := fun _ _ _ _ _ _ h => h.elim
end
noncomputable abbrev TG := V → St → Hp → (St → Hp → Prop) → Prop
noncomputable abbrev TGs := List V → St → Hp → (St → Hp → Prop) → Prop
noncomputable def PG (X : Cx) (target : Expr) (t : TG) : Prop :=
 ∀ (pins : List (Addr × Obj)) (s : Shared) (σ : St) (H : Hp) (v : V) (u : Value) (Q : St → Hp → Prop), Inv X pins σ H s → RelV v u → t v σ H Q →
  wpAny (model X.prog X.w) X.A (assign target X.env u) (fun _ s' => ∃ σ' H', Inv X pins σ' H' s' ∧ Q σ' H') X.xe s
noncomputable def PGs (X : Cx) (ts : List Expr) (t : TGs) : Prop :=
 ∀ (pins : List (Addr × Obj)) (s : Shared) (σ : St) (H : Hp) (vs : List V) (us : List Value) (Q : St → Hp → Prop), Inv X pins σ H s → Vals vs us → t vs σ H Q →
  wpAny (model X.prog X.w) X.A (assignInOrder ((assignEach ts X.env).map (·.2)) us) (fun _ s' => ∃ σ' H', Inv X pins σ' H' s' ∧ Q σ' H') X.xe s
noncomputable abbrev TSet := V → V → V → Hp → (Hp → Prop) → Prop
noncomputable def PSet (X : Cx) (t : TSet) : Prop :=
 ∀ (pins : List (Addr × Obj)) (s : Shared) (σ : St) (H : Hp) (o i v : V) (ov iv u : Value) (Q : Hp → Prop), Inv X pins σ H s → RelV o ov → RelV i iv → RelV v u → t o i v H Q →
  wpAny (model X.prog X.w) X.A (setItem ov iv u) (fun _ s' => ∃ H', Inv X pins σ H' s' ∧ Q H') X.xe s
noncomputable abbrev TIp := V → V → Hp → VK → Prop
noncomputable def PIp (X : Cx) (op : Operator) (t : TIp) : Prop :=
 ∀ (pins : List (Addr × Obj)) (s : Shared) (σ : St) (H : Hp) (x y : V) (v u : Value) (Q : VK), Inv X pins σ H s → RelV x v → RelV y u → t x y H Q →
  wpAny (model X.prog X.w) X.A (inplaceOp op v u) (EP X pins σ Q) X.xe s
section
variable {X : Cx} {pos : Pos}
noncomputable def gName (i : Nat) : TG := fun v σ H Q => Q (σ.set i (some v)) H
theorem pg_name {i : Nat} {x : Str} (hN : X.N.Nodup) (hi : X.N[i]? = some x) (hx : Loc X.env.scope x) (hf : X.fn x = true ∨ X.env.scope.names.lookup x = some .local := by first | exact .inl rfl | exact .inr rfl | assumption) : PG X (.Name x pos) (gName i) := by
 intro pins s σ H v u Q I r h
 exact wpAny_assign_Name (store_ok I hN hi hx r (fun s' I' => ⟨_, H, I', h⟩) hf)
noncomputable def gNil : TGs := fun vs σ H Q => vs = [] ∧ Q σ H
noncomputable def gCons (t : TG) (u : TGs) : TGs := fun vs σ H Q => ∃ v r, vs = v :: r ∧ t v σ H fun σ' H' => u r σ' H' Q
theorem pgs_nil : PGs X [] gNil := by
 intro pins s σ H vs us Q I r h
 obtain ⟨e, h⟩ := h
 subst e
 cases r
 exact assignInOrder_nil ⟨σ, H, I, h⟩
theorem pgs_cons {e : Expr} {es : List Expr} {t : TG} {u : TGs} (h1 : PG X e t) (h2 : PGs X es u)
  (hs : (assignEach (e :: es) X.env).map (·.2) = assign e X.env :: (assignEach es X.env).map (·.2) := by rfl) : PGs X (e :: es) (gCons t u) := by
 intro pins s σ H vs us Q I r h
 obtain ⟨v, vr, e1, h⟩ := h
 subst e1
 cases r with
 | cons r rr =>
  rw [hs]
  refine assignInOrder_cons (thn (h1 pins s σ H _ _ _ I r h) fun _ s1 ⟨σ1, H1, I1, q1⟩ => ?_)
  exact h2 pins s1 σ1 H1 _ _ Q I1 rr q1
noncomputable def gTup (K : PySem.W.Frag) (n : Nat) (t : TGs) : TG := fun v σ H Q => ∃ a xs, v = .ref a ∧ SqT K H a xs ∧ xs.length = n ∧ t xs σ H Q
theorem pg_tup {es : List Expr} {k : Nat} {t : TGs} {n : Nat} (hc : X.calm = true) (h : PGs X es t)
  (hn : (assignEach es X.env).length = n := by rfl) (hst : (assignEach es X.env).findIdx? (·.1) = none := by rfl) : PG X (.Tuple es k pos) (gTup X.K n t) := by
 intro pins s σ H v u Q I r hw
 obtain ⟨a, xs, e1, hq, hl, hw⟩ := hw
 subst e1
 cases r
 obtain ⟨its, rv, ht, hz⟩ := I.tuple hq
 refine assign_Tuple_tuple (I.ok.hd hc) ht (by simp [hn, ← hl, rv.length]) hst fun h' hx => ?_
 have I1 : Inv X pins σ H { s with heap := h' } := I.kept (t' := s.toks) fun b o e => hx b o (Nat.ne_of_lt (Heap.lt_size e)) e
 exact h pins _ σ H xs _ Q I1 (by simpa using rv) hw
noncomputable def gSub (to ti : TE) (t : TSet) : TG := fun v σ H Q => to σ H fun o H1 => ti σ H1 fun i H2 => t o i v H2 fun H3 => Q σ H3
theorem pg_sub {o i : Expr} {to ti : TE} {t : TSet} (ho : PE X o to) (hi : PE X i ti) (hs : PSet X t)
  (ha : ∀ v, assign (.Subscript o i pos) X.env v = (do
   let ov ← holding [v] (eval o X.env)
   let iv ← holding [v, ov] (eval i X.env)
   standAt pos
   holding [v, ov, iv] (setItem ov iv v)
   release [v, ov, iv] []) := by intro _; rfl) : PG X (.Subscript o i pos) (gSub to ti t) := by
 intro pins s σ H v u Q I r h
 rw [ha]
 refine wpAny_bind (wpAny_holding (thn (ho pins s σ H _ I h) fun ov s1 ⟨x, H1, I1, r1, q1⟩ => ?_))
 refine wpAny_bind (wpAny_holding (thn (hi pins s1 σ H1 _ I1 q1) fun iv s2 ⟨y, H2, I2, r2, q2⟩ => ?_))
 refine wpAny_bind (wpAny_standAt (wpAny_bind (wpAny_holding (thn (hs pins s2 σ H2 x y v ov iv u _ I2 r1 r2 r q2) fun _ s3 ⟨H3, I3, q3⟩ => ?_))))
 exact wpAny_release ⟨σ, H3, I3, q3⟩
noncomputable def tAsg (te : TE) (g : TG) : TS := fun D σ H => te σ H fun x H1 => g x σ H1 D.nx
theorem ps_asg {tg e : Expr} {te : TE} {g : TG} (he : PE X e te) (hg : PG X tg g) (hs : swapsWithSole [tg] e pos.line X.env = pure false := by rfl) (hw : swappedStores [tg] e X.env = pure none := by rfl)
  (h1 : (assignEach [tg] X.env).map (·.2) = [assign tg X.env] := by rfl) : PS X (.Assign [tg] e pos) (tAsg te g) := by
 intro pins s σ H D I h
 refine wpAny_Assign_stores (thn (he pins s σ H _ I h) fun v s1 ⟨x, H1, I1, r1, q1⟩ => ?_) hs hw
 rw [h1]
 exact thn (hg pins s1 σ H1 x v _ I1 r1 q1) fun _ s2 q => q
theorem ps_set {i : Nat} {x : Str} {e : Expr} {te : TE} {pos' : Pos} (hN : X.N.Nodup) (hi : X.N[i]? = some x) (hx : Loc X.env.scope x) (he : PE X e te) (hs : swapsWith e (some (.Name x pos')) pos.line X.env = pure false := by rfl) (hf : X.fn x = true ∨ X.env.scope.names.lookup x = some .local := by first | exact .inl rfl | exact .inr rfl | assumption) :
  PS X (.Assign [.Name x pos'] e pos) (tAsg te (gName i)) := by
 intro pins s σ H D I h
 refine wpAny_Assign_Name (thn (he pins s σ H _ I h) fun v s1 ⟨y, H1, I1, r1, q1⟩ => ?_) hs
 exact store_ok I1 hN hi hx r1 (fun s2 I2 => ⟨_, H1, I2, q1⟩) hf
noncomputable def tAugS (to ti te : TE) (tget : V → V → Hp → VK → Prop) (tip : TIp) (tset : TSet) : TS := fun D σ H => to σ H fun o H1 => ti σ H1 fun i H2 => tget o i H2 fun x H3 => te σ H3 fun y H4 => tip x y H4 fun z H5 => tset o i z H5 fun H6 => D.nx σ H6
noncomputable def PGet (X : Cx) (t : V → V → Hp → VK → Prop) : Prop :=
 ∀ (pins : List (Addr × Obj)) (s : Shared) (σ : St) (H : Hp) (o i : V) (ov iv : Value) (Q : VK), Inv X pins σ H s → RelV o ov → RelV i iv → t o i H Q →
  wpAny (model X.prog X.w) X.A (getItem ov iv) (EP X pins σ Q) X.xe s
theorem ps_augS {o i e : Expr} {to ti te : TE} {tget : V → V → Hp → VK → Prop} {tip : TIp} {tset : TSet} {op : Operator} {tpos : Pos} (ho : PE X o to) (hi : PE X i ti) (hg : PGet X tget) (he : PE X e te) (hp : PIp X op tip) (hs : PSet X tset)
  (ha : ∀ ov iv new, augStore i ov iv new = (do holding [new, ov, iv] (setItem ov iv new); release [new, ov, iv] []; pure .next) := by intros; rfl) : PS X (.AugAssign (.Subscript o i tpos) op e pos) (tAugS to ti te tget tip tset) := by
 intro pins s σ H D I h
 refine wpAny_AugAssign_SubscriptAny (thn (ho pins s σ H _ I h) fun ov s1 ⟨x1, H1, I1, r1, q1⟩ => ?_) ha
 refine thn (hi pins s1 σ H1 _ I1 q1) fun iv s2 ⟨x2, H2, I2, r2, q2⟩ => ?_
 refine thn (hg pins s2 σ H2 x1 x2 ov iv _ I2 r1 r2 q2) fun old s3 ⟨x3, H3, I3, r3, q3⟩ => ?_
 refine thn (he pins s3 σ H3 _ I3 q3) fun v s4 ⟨x4, H4, I4, r4, q4⟩ => ?_
 refine thn (hp pins s4 σ H4 x3 x4 old v _ I4 r3 r4 q4) fun new s5 ⟨x5, H5, I5, r5, q5⟩ => ?_
 exact thn (hs pins s5 σ H5 x1 x2 x5 ov iv new _ I5 r1 r2 r5 q5) fun _ s6 ⟨H6, I6, q6⟩ => ⟨σ, H6, I6, q6⟩
end
section
variable {X : Cx} {pos : Pos}
end
structure It where
 go : Nat → Hp → Prop
 yld : Nat → Hp → V → Hp → Prop
 stop : Nat → Hp → Prop
noncomputable def FpOk (X : Cx) (pins : List (Addr × Obj)) (H : Hp) (b : Addr) : Prop :=
 H b = none ∧ b ≠ X.env.locals ∧ b ∉ X.fs ∧ (b ∈ X.ex ∨ X.s₀.heap.objs.size ≤ b) ∧ (∀ x c, X.env.cells.lookup x = some c → c ≠ b) ∧ ∀ p ∈ X.pn ++ pins, p.1 ≠ b
theorem Inv.fpOk {X : Cx} {pins : List (Addr × Obj)} {σ : St} {H H' : Hp} {s : Shared} {b : Addr} (I : Inv X pins σ H s) (hb : s.heap.objs.size ≤ b) (hn : H' b = none) : FpOk X pins H' b := by
 refine ⟨hn, Nat.ne_of_gt (Nat.lt_of_lt_of_le I.lt hb), I.nofs hb, .inr (Nat.le_trans I.sz hb), fun x c e z => ?_, fun p hp z => ?_⟩
 ·obtain ⟨v, q⟩ := I.cell x c e
  exact absurd (Nat.lt_of_lt_of_le q.lt (by rw [z]; exact hb)) (Nat.lt_irrefl _)
 ·exact absurd (Nat.lt_of_lt_of_le (Heap.lt_size (I.pin p hp).1) (by rw [z]; exact hb)) (Nat.lt_irrefl _)
structure Turn (P : Program) (w : World) (K : PySem.W.Frag) (tg : Expr) (J : It) (fp : List Addr) (it : Addr) (tn : Nat → Heap → Prop) : Prop where
 mem : it ∈ fp
 obj : ∀ i h, tn i h → ∀ b ∈ fp, ∃ o, h.get? b = some o ∧ ∀ v, o.data ≠ .cell v
 keep : ∀ i h h', tn i h → (∀ b ∈ fp, ∀ o, h.get? b = some o → h'.get? b = some o) → tn i h'
 item : ∀ (X : Cx), X.prog = P → X.w = w → X.K = K → X.calm = true → ∀ (i : Nat) (pins : List (Addr × Obj)) (s : Shared) (σ : St) (H : Hp) (E : Value → Shared → Prop), Inv X pins σ H s → (∀ b ∈ fp, FpOk X pins H b) → tn i s.heap → J.go i H →
  wpAny (model P w) X.A (pyNext (.ref it)) (fun r s1 => ∃ u, r = some u ∧
   wpAny (model P w) X.A (letOwnedTupleGo tg (.ref it) u) (fun _ s2 => ∃ x H', Inv X pins σ H' s2 ∧ RelV x u ∧ J.yld i H x H' ∧ tn (i + 1) s2.heap ∧ ∀ b ∈ fp, H' b = none) E s1) E s
 done : ∀ (X : Cx), X.prog = P → X.w = w → X.K = K → X.calm = true → ∀ (i : Nat) (pins : List (Addr × Obj)) (s : Shared) (σ : St) (H : Hp) (E : Value → Shared → Prop), Inv X pins σ H s → (∀ b ∈ fp, FpOk X pins H b) → tn i s.heap → J.stop i H →
  wpAny (model P w) X.A (pyNext (.ref it)) (fun r s1 => r = none ∧ Inv X pins σ H s1) E s
 self : ∀ (A : Around) (i : Nat) (s : Shared) (Q : Value → Shared → Prop) (E : Value → Shared → Prop), tn i s.heap → Q (.ref it) s → wpAny (model P w) A (pyIter (.ref it)) Q E s
noncomputable abbrev TI := St → Hp → (It → Hp → Prop) → Prop
noncomputable def PIE (X : Cx) (pins : List (Addr × Obj)) (σ : St) (tg : Expr) (R : It → Hp → Prop) (itv : Value) (s2 : Shared) : Prop :=
 ∃ (it : Addr) (fp : List Addr) (tn : Nat → Heap → Prop) (J : It) (H' : Hp), itv = .ref it ∧ Inv X pins σ H' s2 ∧ Turn X.prog X.w X.K tg J fp it tn ∧ tn 0 s2.heap ∧ (∀ b ∈ fp, FpOk X pins H' b) ∧ R J H'
noncomputable def PI (X : Cx) (tg iter : Expr) (wi : TI) : Prop :=
 ∀ (pins : List (Addr × Obj)) (s : Shared) (σ : St) (H : Hp) (R : It → Hp → Prop), Inv X pins σ H s → wi σ H R →
  wpAny (model X.prog X.w) X.A (eval iter X.env) (fun v s1 => wpAny (model X.prog X.w) X.A (pyIter v) (PIE X pins σ tg R) X.xe s1) X.xe s
theorem go_of {M : Model} {A : Around} {E : Value → Shared → Prop} {s : Shared} {tg : Expr} {it : Addr} {u : Value} {o : Obj} {n : String} {vs : Array Value} {Q : Unit → Shared → Prop} (ho : s.heap.get? it = some o) (hc : o.cls = .type n) (hd : o.data = .fields vs)
  (hn : ["enumerate", "zip", "dict_itemiterator", "dict_reverseitemiterator", "odict_iterator", "itertools.zip_longest", "itertools.pairwise"].contains n = false) (hQ : Q () s) : wpAny M A (letOwnedTupleGo tg (.ref it) u) Q E s := by
 unfold letOwnedTupleGo
 cases tg <;> first
  | exact wpAny_pure hQ
  | (cases u <;> first
    | exact wpAny_pure hQ
    | (refine wpAny_bind (wpAny_load ho ?_)
       rw [hc, hd]
       show wpAny M A (if (["enumerate", "zip", "dict_itemiterator", "dict_reverseitemiterator", "odict_iterator", "itertools.zip_longest", "itertools.pairwise"].contains n && vs[0]? == some (rawInt _)) = true then _ else _) Q E s
       rw [if_neg (by intro h; rw [hn, Bool.false_and] at h; cases h)]
       exact wpAny_pure hQ))
noncomputable def Itl (K : PySem.W.Frag) (a : Addr) : It :=
 ⟨fun i H => ∃ xs x, SqL K H a xs ∧ xs[i]? = some x, fun i H x H' => H' = H ∧ ∀ xs, SqL K H a xs → xs[i]? = some x, fun i H => ∃ xs, SqL K H a xs ∧ xs.length ≤ i⟩
noncomputable def Itr (lo : Int) (n : Nat) : It := ⟨fun i _ => i < n, fun i H x H' => H' = H ∧ x = .int (lo + i), fun i _ => n ≤ i⟩
theorem turn_list {P : Program} {w : World} {K : PySem.W.Frag} {tg : Expr} (a it : Addr) : Turn P w K tg (Itl K a) [it] it (fun i h => h.IsListIter it a i) where
 mem := by simp
 obj := fun i h st b hb => by
  have e : b = it := by simpa using hb
  subst e
  obtain ⟨o, e, c, d⟩ := st
  exact ⟨o, e, fun v z => by rw [d] at z; cases z⟩
 keep := fun i h h' st k => st.at fun o e => k it (by simp) o e
 item := by
  intro X hP hw hK hc i pins s σ H E I hf st hg
  subst hP hw hK
  obtain ⟨xs, x, hq, hx⟩ := hg
  obtain ⟨its, rv, p, hz⟩ := I.list hq
  obtain ⟨u, hu, ru⟩ := rv.get hx
  obtain ⟨f0, f1, f2, f3, f4, f5⟩ := hf it (by simp)
  refine wpAny_pyNext_list_item st p.isList (x := u) (by simpa using hu) fun h' st' sb => ?_
  have I1 : Inv X pins σ H { s with heap := h' } := I.turned (t' := s.toks) (fun b o hb e => (sb.2 b hb).trans e) f0 f1 f3 f4 f5
  obtain ⟨o, e, c, d⟩ := id st'
  exact ⟨u, rfl, go_of (s := { s with heap := h' }) e c d (by decide) ⟨x, H, I1, ru, ⟨rfl, fun ys hy => by rw [I.list_inj hy hq]; exact hx⟩, st', fun b hb => (hf b hb).1⟩⟩
 done := by
  intro X hP hw hK hc i pins s σ H E I hf st hg
  subst hP hw hK
  obtain ⟨xs, hq, hx⟩ := hg
  obtain ⟨its, rv, p, hz⟩ := I.list hq
  obtain ⟨f0, f1, f2, f3, f4, f5⟩ := hf it (by simp)
  have hl := rv.length
  exact wpAny_pyNext_list_end (I.ok.hd hc) st p.isList (by simp; omega) fun h' eb => ⟨rfl, I.turned (t' := s.toks) (fun b o hb e => eb b o hb e) f0 f1 f3 f4 f5⟩
 self := fun _ _ _ _ _ st h => wpAny_pyIter_listiter st h
theorem turn_range {P : Program} {w : World} {K : PySem.W.Frag} {tg : Expr} (it : Addr) (lo : Int) (n : Nat) : Turn P w K tg (Itr lo n) [it] it (fun i h => IsRangeIter h it (lo + (i : Nat) * 1) ((n : Int) - (i : Nat)) 1) where
 mem := by simp
 obj := fun i h st b hb => by
  have e : b = it := by simpa using hb
  subst e
  exact ⟨_, st, fun v z => by
   have z' : Data.fields _ = Data.cell v := z
   cases z'⟩
 keep := fun i h h' st k => k it (by simp) _ st
 item := by
  intro X hP hw hK hc i pins s σ H E I hf st hg
  subst hP hw hK
  obtain ⟨f0, f1, f2, f3, f4, f5⟩ := hf it (by simp)
  have W := Walks.range (prog := X.prog) (w := X.w) (I.ok.hd hc) it lo 1 n
  refine W.item i s _ _ hg st fun v h' tk hv st' kk => ?_
  obtain ⟨t, rfl⟩ := hv
  have I1 : Inv X pins σ H { s with heap := h', toks := tk } := I.turned (fun b o hb e => kk b o (by simpa using hb) e) f0 f1 f3 f4 f5
  refine ⟨_, rfl, go_of (s := { s with heap := h', toks := tk }) (n := "range_iterator") st' rfl rfl (by decide) ⟨.int (lo + i), H, I1, ⟨t, ?_⟩, ⟨rfl, rfl⟩, st', fun b hb => (hf b hb).1⟩⟩
  rw [Int.mul_one]
 done := by
  intro X hP hw hK hc i pins s σ H E I hf st hg
  subst hP hw hK
  obtain ⟨f0, f1, f2, f3, f4, f5⟩ := hf it (by simp)
  exact wpAny_pyNext_range_end (I.ok.hd hc) st (by have : n ≤ i := hg; omega) fun h' eb => ⟨rfl, I.turned (t' := s.toks) (fun b o hb e => eb b o hb e) f0 f1 f3 f4 f5⟩
 self := fun _ _ _ _ _ st h => wpAny_pyIter_rangeiter st h
end L2
namespace L2
open PySem PySem.Spec PyProof.Rows
section
variable {X : Cx} {tg : Expr}
noncomputable def iList (K : PySem.W.Frag) (tl : TE) : TI := fun σ H R => tl σ H fun x H1 => ∃ a, x = .ref a ∧ (∃ xs, SqL K H1 a xs) ∧ R (Itl K a) H1
theorem pi_list {l : Expr} {tl : TE} (hl : PE X l tl) : PI X tg l (iList X.K tl) := by
 intro pins s σ H R I h
 refine thn (hl pins s σ H _ I h) fun v s1 ⟨x, H1, I1, r1, q1⟩ => ?_
 obtain ⟨a, e, ⟨xs, hq⟩, q⟩ := q1
 subst e
 cases r1
 obtain ⟨its, rv, p, hz⟩ := I1.list hq
 refine wpAny_pyIter_list p.isList ?_
 refine ⟨s1.heap.objs.size, [s1.heap.objs.size], _, _, H1, rfl, I1.kept (t' := s1.toks) fun b o e => Heap.get?_push_of_some _ e, turn_list a _, ⟨_, Heap.get?_push_size _ rfl, rfl, rfl⟩, fun b hb => ?_, q⟩
 have e : b = s1.heap.objs.size := by simpa using hb
 subst e
 exact I1.fpOk (Nat.le_refl _) (I1.hok.fresh (Nat.le_refl _))
theorem range_it {pins : List (Addr × Obj)} {σ : St} {H : Hp} {s : Shared} {R : It → Hp → Prop} {E : Value → Shared → Prop} {lo hi : Int} {t u v : Tok} {tk : Nat} (I : Inv X pins σ H s) (h1 : -(2 ^ 62) ≤ lo) (h2 : lo < 2 ^ 62) (h3 : -(2 ^ 62) ≤ hi) (h4 : hi < 2 ^ 62)
  (q : R (Itr lo (hi - lo).toNat) H) : wpAny (model X.prog X.w) X.A (pyIter (.ref s.heap.objs.size)) (PIE X pins σ tg R) E { s with heap := s.heap.push { cls := .type "range", data := .fields #[.int lo t, .int hi u, .int 1 v] }, toks := tk } := by
 refine wpAny_pyIter_range (IsRange.new ..) (small_one h1 h2 h3 h4) ?_
 have I1 : Inv X pins σ H { s with heap := s.heap.push { cls := .type "range", data := .fields #[.int lo t, .int hi u, .int 1 v] }, toks := tk } := I.kept fun b o e => Heap.get?_push_of_some _ e
 refine ⟨(s.heap.push { cls := .type "range", data := .fields #[.int lo t, .int hi u, .int 1 v] }).objs.size, [(s.heap.push { cls := .type "range", data := .fields #[.int lo t, .int hi u, .int 1 v] }).objs.size], _, _, H, rfl,
  I1.kept (t' := tk) fun b o e => Heap.get?_push_of_some _ e, turn_range _ lo (hi - lo).toNat, ?_, fun b hb => ?_, q⟩
 ·have e1 : lo + ((0 : Nat) : Int) * 1 = lo := by simp
  have e2 : (((hi - lo).toNat : Nat) : Int) - ((0 : Nat) : Int) = Builtin.Range.rangeSize lo hi 1 := by rw [rangeSize_one]; split <;> omega
  show IsRangeIter _ _ (lo + ((0 : Nat) : Int) * 1) ((((hi - lo).toNat : Nat) : Int) - ((0 : Nat) : Int)) 1
  rw [e1, e2]
  exact Heap.get?_push_size _ rfl
 ·have e : b = (s.heap.push { cls := .type "range", data := .fields #[.int lo t, .int hi u, .int 1 v] }).objs.size := by simpa using hb
  subst e
  exact I1.fpOk (Nat.le_refl _) (I1.hok.fresh (Nat.le_refl _))
noncomputable def iRng1 (ta : TA) : TI := fun σ H R => ta σ H fun vs H1 => ∃ j : Int, vs = [.int j] ∧ -(2 ^ 62) ≤ j ∧ j < 2 ^ 62 ∧ R (Itr 0 j.toNat) H1
noncomputable def iRng2 (ta : TA) : TI := fun σ H R => ta σ H fun vs H1 => ∃ i j : Int, vs = [.int i, .int j] ∧ (-(2 ^ 62) ≤ i ∧ i < 2 ^ 62 ∧ -(2 ^ 62) ≤ j ∧ j < 2 ^ 62) ∧ R (Itr i (j - i).toNat) H1
theorem pi_range1 {a : Expr} {ta : TA} {p pos : Pos} (hg : Gl X "range") (hm : X.mg "range" = none) (ha : PA X [a] ta) (hs : starEach [a] X.env = [(false, eval a X.env)] := by rfl) : PI X tg (.Call (.Name "range" p) [a] [] pos) (iRng1 ta) := by
 intro pins s σ H R I h
 refine Call_ (ld_blt I hg hm boot_range (PyProof.Rows.callWith_type1 (thn (ha pos pins s σ H _ I h) fun us s1 ⟨vs, H1, I1, r1, q1⟩ => ?_) hs rfl))
 obtain ⟨j, e, q1, q2, q⟩ := q1
 subst e
 cases r1 with
 | cons r rr =>
  cases rr
  obtain ⟨t, rfl⟩ := r
  exact call_range_1 (range_it I1 (by omega) (by omega) q1 q2 (by simpa using q))
theorem pi_range2 {a b : Expr} {ta : TA} {p pos : Pos} (hg : Gl X "range") (hm : X.mg "range" = none) (ha : PA X [a, b] ta) (hs : starEach [a, b] X.env = [(false, eval a X.env), (false, eval b X.env)] := by rfl) (hs2 : starEach [b] X.env = [(false, eval b X.env)] := by rfl) :
  PI X tg (.Call (.Name "range" p) [a, b] [] pos) (iRng2 ta) := by
 intro pins s σ H R I h
 refine Call_ (ld_blt I hg hm boot_range (PyProof.Rows.callWith_type1 (thn (ha pos pins s σ H _ I h) fun us s1 ⟨vs, H1, I1, r1, q1⟩ => ?_) (by rw [hs, hs2]) (by rw [hs2]; rfl)))
 obtain ⟨i, j, e, ⟨q1, q2, q3, q4⟩, q⟩ := q1
 subst e
 cases r1 with
 | cons r rr =>
  cases rr with
  | cons r' rr =>
   cases rr
   obtain ⟨t, rfl⟩ := r
   obtain ⟨t', rfl⟩ := r'
   exact call_range_2 (range_it I1 q1 q2 q3 q4 q)
noncomputable def tFor (wi : TI) (g : TG) (tb : TS) : TS := fun D σ H => wi σ H fun J H1 => ∃ W : Nat → Nat → St → Hp → Prop, (∃ m, W 0 m σ H1) ∧ ∀ i m σ H, W i m σ H →
 (J.stop i H ∧ D.nx σ H) ∨ (J.go i H ∧ ∃ N : St → Hp → Prop, (∀ σ' H', N σ' H' → ∃ m', m' < m ∧ W (i + 1) m' σ' H') ∧ ∀ x H', J.yld i H x H' → g x σ H' fun σ2 H2 => tb { D with nx := N, ct := N, bk := D.nx } σ2 H2)
noncomputable def pinsAt (fp : List Addr) (h : Heap) : List (Addr × Obj) := fp.filterMap fun b => (h.get? b).map fun o => (b, o)
theorem mem_pinsAt {fp : List Addr} {h : Heap} {b : Addr} {o : Obj} (hb : b ∈ fp) (e : h.get? b = some o) : (b, o) ∈ pinsAt fp h := List.mem_filterMap.mpr ⟨b, hb, by rw [e]; rfl⟩
theorem of_pinsAt {fp : List Addr} {h : Heap} {p : Addr × Obj} (hp : p ∈ pinsAt fp h) : p.1 ∈ fp ∧ h.get? p.1 = some p.2 := by
 obtain ⟨b, hb, e⟩ := List.mem_filterMap.mp hp
 cases q : h.get? b with
 | none => rw [q] at e; cases e
 | some o =>
  rw [q] at e
  have e' : (b, o) = p := Option.some.inj e
  subst e'
  exact ⟨hb, q⟩
theorem Inv.pinned {pins : List (Addr × Obj)} {σ : St} {H : Hp} {s : Shared} {fp : List Addr} (I : Inv X pins σ H s) (hf : ∀ b ∈ fp, FpOk X pins H b) (ho : ∀ b ∈ fp, ∃ o, s.heap.get? b = some o ∧ ∀ v, o.data ≠ .cell v) : Inv X (pins ++ pinsAt fp s.heap) σ H s :=
 I.pins_of fun p hp => (List.mem_append.mp hp).elim (fun z => I.pin p (List.mem_append_right _ z)) fun z => by
  obtain ⟨hb, e⟩ := of_pinsAt z
  obtain ⟨f0, f1, f2, _⟩ := hf p.1 hb
  obtain ⟨o, e', d⟩ := ho p.1 hb
  rw [e] at e'; cases e'
  exact ⟨e, f0, f1, f2, d⟩
theorem Inv.unpinned {pins pl : List (Addr × Obj)} {σ : St} {H : Hp} {s : Shared} (I : Inv X (pins ++ pl) σ H s) : Inv X pins σ H s := I.pins_of fun p hp => I.pin p (List.mem_append_right _ (List.mem_append_left _ hp))
theorem ps_for {iter : Expr} {body : List Stmt} {wi : TI} {g : TG} {tb : TS} {pos : Pos} (hp : PassesOwn (model X.prog X.w) X.A X.env X.xe) (hc : X.calm = true) (hi : PI X tg iter wi) (hg : PG X tg g) (hb : PSs X body tb)
  (hs : ∀ x, foldedSetIterable iter X.env x = pure x := by intro _; rfl) : PS X (.For tg iter body [] pos) (tFor wi g tb) := by
 intro pins s σ H D I h
 refine wpAny_For (thn (hi pins s σ H _ I h) fun v s1 h1 => thn h1 fun itv s2 h2 => ?_) hs
 obtain ⟨it, fp, tn, J, H2, e, I2, T, st2, f2, W, ⟨m0, w0⟩, turn⟩ := h2
 subst e
 -- what stays true of the iterator's objects through the loop
 have stat : ∀ {H' : Hp}, (∀ b ∈ fp, H' b = none) → ∀ b ∈ fp, FpOk X pins H' b := fun hn b hb => ⟨hn b hb, (f2 b hb).2⟩
 refine codeAny_forLoop_any (fun n s' => ∃ i σ' H', Inv X pins σ' H' s' ∧ tn i s'.heap ∧ (∀ b ∈ fp, H' b = none) ∧ W i n σ' H') ?_ m0 ⟨0, σ, H2, I2, st2, fun b hb => (f2 b hb).1, w0⟩
 rintro n s3 ⟨i, σ3, H3, I3, st3, fr3, w3⟩
 rcases turn i n σ3 H3 w3 with ⟨stop, qn⟩ | ⟨go, N, hN, step⟩
 ·refine wpAny_passesOwn hp (thn (T.done X rfl rfl rfl hc i pins s3 σ3 H3 X.xe I3 (stat fr3) st3 stop) fun r s4 ⟨hr, I4⟩ => ?_)
  subst hr
  exact wpAny_execs_nil ⟨σ3, H3, I4, qn⟩
 ·refine wpAny_passesOwn hp (thn (T.item X rfl rfl rfl hc i pins s3 σ3 H3 X.xe I3 (stat fr3) st3 go) fun r s4 ⟨u, hr, h4⟩ => ?_)
  subst hr
  refine wpAny_passesOwn hp (thn h4 fun _ s5 ⟨x, H5, I5, r5, y5, st5, fr5⟩ => ?_)
  have I5' := I5.pinned (stat fr5) (T.obj _ _ st5)
  refine wpAny_passesOwn hp (thn (hg _ s5 σ3 H5 x u _ I5' r5 (step x H5 y5)) fun _ s6 ⟨σ6, H6, I6, q6⟩ => ?_)
  refine wpAny_passesOwn hp (thn (hb _ s6 σ6 H6 _ I6 q6) fun f s7 q7 => ?_)
  have again : ∀ {σ7 : St} {H7 : Hp}, Inv X (pins ++ pinsAt fp s5.heap) σ7 H7 s7 → N σ7 H7 → ∃ m, m < n ∧ ∃ i σ' H', Inv X pins σ' H' s7 ∧ tn i s7.heap ∧ (∀ b ∈ fp, H' b = none) ∧ W i m σ' H' := fun {σ7 H7} I7 n7 => by
   obtain ⟨m', hm, w7⟩ := hN σ7 H7 n7
   refine ⟨m', hm, i + 1, σ7, H7, I7.unpinned, T.keep _ _ _ st5 fun b hb o e => (I7.pin (b, o) (List.mem_append_right _ (List.mem_append_right _ (mem_pinsAt hb e)))).1, fun b hb => ?_, w7⟩
   obtain ⟨o, e, d⟩ := T.obj _ _ st5 b hb
   exact (I7.pin (b, o) (List.mem_append_right _ (List.mem_append_right _ (mem_pinsAt hb e)))).2.1
  cases f with
  | next => obtain ⟨σ7, H7, I7, n7⟩ := q7; exact again I7 n7
  | cont => obtain ⟨σ7, H7, I7, n7⟩ := q7; exact again I7 n7
  | brk => obtain ⟨σ7, H7, I7, q7⟩ := q7; exact ⟨σ7, H7, I7.unpinned, q7⟩
  | ret v => obtain ⟨x7, σ7, H7, I7, r7, q7⟩ := q7; exact ⟨x7, σ7, H7, I7.unpinned, r7, q7⟩
end
end L2
namespace L2
open PySem PySem.Spec PyProof.Rows
noncomputable abbrev R2 := V → V → Hp → VK → Prop
noncomputable def OpR (X : Cx) (f : Value → Value → Sem Value) (r : R2) : Prop :=
 ∀ (pins : List (Addr × Obj)) (s : Shared) (σ : St) (H : Hp) (x y : V) (v u : Value) (Q : VK), Inv X pins σ H s → RelV x v → RelV y u → r x y H Q →
  wpAny (model X.prog X.w) X.A (f v u) (EP X pins σ Q) X.xe s
noncomputable def UnR (X : Cx) (f : Value → Sem Value) (r : V → Hp → VK → Prop) : Prop :=
 ∀ (pins : List (Addr × Obj)) (s : Shared) (σ : St) (H : Hp) (x : V) (v : Value) (Q : VK), Inv X pins σ H s → RelV x v → r x H Q →
  wpAny (model X.prog X.w) X.A (f v) (EP X pins σ Q) X.xe s
noncomputable def CallR (X : Cx) (f : Value) (r : List V → Hp → VK → Prop) : Prop :=
 ∀ (pins : List (Addr × Obj)) (s : Shared) (σ : St) (H : Hp) (xs : List V) (us : List Value) (Q : VK), Inv X pins σ H s → Vals xs us → r xs H Q →
  wpAny (model X.prog X.w) X.A (call f us) (EP X pins σ Q) X.xe s
noncomputable def tOp (r : R2) (ta tb : TE) : TE := fun σ H Q => ta σ H fun x H1 => tb σ H1 fun y H2 => r x y H2 Q
noncomputable def tUn (r : V → Hp → VK → Prop) (ta : TE) : TE := fun σ H Q => ta σ H fun x H1 => r x H1 Q
noncomputable def rI (C : Int → Int → Prop) (g : Int → Int → V) : R2 := fun x y H Q => ∃ i j, x = .int i ∧ y = .int j ∧ C i j ∧ Q (g i j) H
noncomputable def rI0 (g : Int → Int → V) : R2 := fun x y H Q => ∃ i j, x = .int i ∧ y = .int j ∧ Q (g i j) H
noncomputable def rU (g : Int → V) : V → Hp → VK → Prop := fun x H Q => ∃ i, x = .int i ∧ Q (g i) H
section
variable {X : Cx} {a b c : Expr} {ta tb tc : TE} {pos : Pos}
theorem binT (ha : PE X a ta) (hb : PE X b tb) {pins : List (Addr × Obj)} {s : Shared} {σ : St} {H : Hp} {R : V → V → Hp → Prop} (I : Inv X pins σ H s)
  (h : ta σ H fun x H1 => tb σ H1 fun y H2 => R x y H2) {Q : Value → Shared → Prop} {f : Value → Value → Sem Value}
  (hf : ∀ v u s2 x y H2, Inv X pins σ H2 s2 → RelV x v → RelV y u → R x y H2 → wpAny (model X.prog X.w) X.A (f v u) Q X.xe s2) :
  wpAny (model X.prog X.w) X.A (eval a X.env) (fun v s₁ => wpAny (model X.prog X.w) X.A (eval b X.env) (fun u s₂ => wpAny (model X.prog X.w) X.A (f v u) Q X.xe s₂) X.xe s₁) X.xe s := by
 refine thn (ha pins s σ H _ I h) fun v s1 ⟨x, H1, I1, r1, q1⟩ => ?_
 refine thn (hb pins s1 σ H1 _ I1 q1) fun u s2 ⟨y, H2, I2, r2, q2⟩ => ?_
 exact hf v u s2 x y H2 I2 r1 r2 q2
theorem pe_op {op : Operator} {r : R2} (ho : OpR X (binaryOp op) r) (ha : PE X a ta) (hb : PE X b tb) : PE X (.BinOp a op b pos) (tOp r ta tb) := by
 intro pins s σ H Q I h
 exact wpAny_BinOp (binT ha hb I h fun v u s2 x y H2 I2 rx ry q => ho pins s2 σ H2 x y v u Q I2 rx ry q)
theorem pe_un {op : UnaryOp} {r : V → Hp → VK → Prop} (ho : UnR X (unaryOp op) r) (ha : PE X a ta) : PE X (.UnaryOp op a pos) (tUn r ta) := by
 intro pins s σ H Q I h
 exact UnaryOp_ (thn (ha pins s σ H _ I h) fun v s1 ⟨x, H1, I1, r1, q1⟩ => ho pins s1 σ H1 x v Q I1 r1 q1)
theorem opI {f : Value → Value → Sem Value} {C : Int → Int → Prop} {g : Int → Int → Int}
  (rule : ∀ (i j : Int) (t u : Tok) (s : Shared) (Q : Value → Shared → Prop) (E : Value → Shared → Prop), C i j → Q (.int (g i j) s.toks) { s with toks := s.toks + 1 } → wpAny (model X.prog X.w) X.A (f (.int i t) (.int j u)) Q E s) :
  OpR X f (rI C fun i j => .int (g i j)) := by
 intro pins s σ H x y v u Q I rx ry h
 obtain ⟨i, j, rfl, rfl, hc, q⟩ := h
 obtain ⟨t, rfl⟩ := rx
 obtain ⟨t', rfl⟩ := ry
 exact rule i j t t' s _ _ hc ⟨.int (g i j), H, I.tok _, ⟨_, rfl⟩, q⟩
theorem opI0 {f : Value → Value → Sem Value} {g : Int → Int → Int}
  (rule : ∀ (i j : Int) (t u : Tok) (s : Shared) (Q : Value → Shared → Prop) (E : Value → Shared → Prop), Q (.int (g i j) s.toks) { s with toks := s.toks + 1 } → wpAny (model X.prog X.w) X.A (f (.int i t) (.int j u)) Q E s) :
  OpR X f (rI0 fun i j => .int (g i j)) := by
 intro pins s σ H x y v u Q I rx ry h
 obtain ⟨i, j, rfl, rfl, q⟩ := h
 obtain ⟨t, rfl⟩ := rx
 obtain ⟨t', rfl⟩ := ry
 exact rule i j t t' s _ _ ⟨.int (g i j), H, I.tok _, ⟨_, rfl⟩, q⟩
theorem opB0 {f : Value → Value → Sem Value} {g : Int → Int → Bool}
  (rule : ∀ (i j : Int) (t u : Tok) (s : Shared) (Q : Value → Shared → Prop) (E : Value → Shared → Prop), Q (.bool (g i j)) s → wpAny (model X.prog X.w) X.A (f (.int i t) (.int j u)) Q E s) :
  OpR X f (rI0 fun i j => .bl (g i j)) := by
 intro pins s σ H x y v u Q I rx ry h
 obtain ⟨i, j, rfl, rfl, q⟩ := h
 obtain ⟨t, rfl⟩ := rx
 obtain ⟨t', rfl⟩ := ry
 exact rule i j t t' s _ _ ⟨.bl (g i j), H, I, rfl, q⟩
noncomputable def CPow (i j : Int) : Prop := 0 ≤ j ∧ j ≤ 1000000 ∧ i.natAbs < 2 ^ 64
noncomputable def CMul (i j : Int) : Prop := (-(2 ^ 64) < i ∧ i < 2 ^ 64) ∨ (-(2 ^ 64) < j ∧ j < 2 ^ 64)
theorem CMul.ok {i j : Int} (h : CMul i j) : IntMulOk i j := by
 rcases h with ⟨h1, h2⟩ | ⟨h1, h2⟩
 ·exact .of_left (intBits_le_64 h1 h2)
 ·exact .of_right (intBits_le_64 h1 h2)
theorem two_pow_nn (k : Nat) : (0 : Int) ≤ 2 ^ k := by
 rw [two_pow_cast]
 exact Int.natCast_nonneg _
theorem op_add : OpR X (binaryOp .Add) (rI0 fun i j => .int (i + j)) := opI0 fun _ _ _ _ _ _ _ q => add_int q
theorem op_sub : OpR X (binaryOp .Sub) (rI0 fun i j => .int (i - j)) := opI0 fun _ _ _ _ _ _ _ q => sub_int q
theorem op_mul : OpR X (binaryOp .Mult) (rI CMul fun i j => .int (i * j)) := opI fun _ _ _ _ _ _ _ hc q => mul_int q hc.ok
theorem op_mod : OpR X (binaryOp .Mod) (rI (fun _ j => 0 < j) fun i j => .int (i % j)) := opI fun i j _ _ _ _ _ hc q => by
 have h1 : (0 : Int) < j := hc
 exact mod_int' (by omega) (by rw [Int.fmod_eq_emod_of_nonneg i (by omega)]; exact q)
theorem op_pow : OpR X (binaryOp .Pow) (rI CPow fun i j => .int (i ^ j.toNat)) := opI fun _ _ _ _ _ _ _ hc q => pow_int_small hc.1 hc.2.1 hc.2.2 q
theorem op_shl : OpR X (binaryOp .LShift) (rI CPow fun i j => .int (i * 2 ^ j.toNat)) := opI fun _ _ _ _ _ _ _ hc q => lshift_int_small hc.1 hc.2.1 hc.2.2 q
theorem op_shr : OpR X (binaryOp .RShift) (rI (fun _ j => 0 ≤ j) fun i j => .int (i / 2 ^ j.toNat)) := opI fun i j _ _ _ _ _ hc q =>
 rshift_int hc (by rw [Int.fdiv_eq_ediv_of_nonneg i (two_pow_nn _)]; exact q)
theorem op_and : OpR X (binaryOp .BitAnd) (rI0 fun i j => .int (Builtin.bitAnd i j)) := opI0 fun _ _ _ _ _ _ _ q => and_int q
theorem op_or : OpR X (binaryOp .BitOr) (rI0 fun i j => .int (Builtin.bitOr i j)) := opI0 fun _ _ _ _ _ _ _ q => or_int q
theorem iop_add : OpR X (inplaceOp .Add) (rI0 fun i j => .int (i + j)) := opI0 fun _ _ _ _ _ _ _ q => iadd_int q
theorem unI {f : Value → Sem Value} {g : Int → Int}
  (rule : ∀ (i : Int) (t : Tok) (s : Shared) (Q : Value → Shared → Prop) (E : Value → Shared → Prop), Q (.int (g i) s.toks) { s with toks := s.toks + 1 } → wpAny (model X.prog X.w) X.A (f (.int i t)) Q E s) :
  UnR X f (rU fun i => .int (g i)) := by
 intro pins s σ H x v Q I rx h
 obtain ⟨i, rfl, q⟩ := h
 obtain ⟨t, rfl⟩ := rx
 exact rule i t s _ _ ⟨.int (g i), H, I.tok _, ⟨_, rfl⟩, q⟩
theorem un_neg : UnR X (unaryOp .USub) (rU fun i => .int (-i)) := unI fun _ _ _ _ _ q => neg_int q
end
noncomputable def scal : V → V → Bool
 | .non, .non => true | .non, .int _ => true | .int _, .non => true | .non, .bl _ => true | .bl _, .non => true | .non, .str _ => true | .str _, .non => true
 | .int _, .int _ => true | .bl _, .bl _ => true | .str _, .str _ => true | .byt _, .byt _ => true
 | .int _, .str _ => true | .str _, .int _ => true | .bl _, .str _ => true | .str _, .bl _ => true
 | _, _ => false
section
variable {X : Cx} {a b c : Expr} {ta tb tc : TE} {pos : Pos}
theorem fin_bl {pins : List (Addr × Obj)} {σ : St} {H : Hp} {s : Shared} {Q : VK} {k k' : Bool} (I : Inv X pins σ H s) (q : Q (.bl k) H) (e : k = k') : EP X pins σ Q (.bool k') s := by
 subst e
 exact ⟨.bl k, H, I, rfl, q⟩
theorem op_lt : OpR X (compareOp .Lt) (rI0 fun i j => .bl (decide (i < j))) := opB0 fun _ _ _ _ _ _ _ q => lt_int q
theorem op_gt : OpR X (compareOp .Gt) (rI0 fun i j => .bl (decide (j < i))) := opB0 fun _ _ _ _ _ _ _ q => gt_int q
theorem op_ge : OpR X (compareOp .GtE) (rI0 fun i j => .bl (decide (j ≤ i))) := opB0 fun _ _ _ _ _ _ _ q => ge_int q
theorem OpR.or {f : Value → Value → Sem Value} {r r' : R2} (h : OpR X f r) (h' : OpR X f r') : OpR X f (fun x y H Q => r x y H Q ∨ r' x y H Q) := by
 intro pins s σ H x y v u Q I rx ry q
 rcases q with q | q
 ·exact h pins s σ H x y v u Q I rx ry q
 ·exact h' pins s σ H x y v u Q I rx ry q
theorem nomark (b : Expr) {op : CmpOp} (h : op ≠ .In := by decide) (h2 : op ≠ .NotIn := by decide) : behindInMarks op b = false := by
 have e1 : (op == CmpOp.In) = false := by cases op <;> first | rfl | exact absurd rfl h
 have e2 : (op == CmpOp.NotIn) = false := by cases op <;> first | rfl | exact absurd rfl h2
 cases b <;> simp [behindInMarks, e1, e2]
theorem pe_cmpR {op : CmpOp} {r : R2} (ho : OpR X (compareOp op) r) (ha : PE X a ta) (hb : PE X b tb) (hm : behindInMarks op b = false) : PE X (.Compare a [op] [b] pos) (tOp r ta tb) := by
 intro pins s σ H Q I h
 exact wpAny_Compare1 (binT ha hb I h fun v u s2 x y H2 I2 rx ry q => ho pins s2 σ H2 x y v u Q I2 rx ry q) hm
noncomputable def tTest (t : TE) : TT := fun σ H Q => t σ H fun x H' => ∃ k, x = .bl k ∧ Q k H'
theorem pt_cmpR {op : CmpOp} {r : R2} (ho : OpR X (compareOp op) r) (ha : PE X a ta) (hb : PE X b tb) (hm : behindInMarks op b = false) : PT X (.Compare a [op] [b] pos) (tTest (tOp r ta tb)) := by
 intro pins s σ H Q I h
 refine wpAny_isTrue_Compare1 (thn (ha pins s σ H _ I h) fun v s1 ⟨x, H1, I1, r1, q1⟩ => thn (hb pins s1 σ H1 _ I1 q1) fun u s2 ⟨y, H2, I2, r2, q2⟩ =>
  thn (ho pins s2 σ H2 x y v u _ I2 r1 r2 q2) fun c s3 ⟨z, H3, I3, r3, k, e, q3⟩ => ?_) hm
 subst e
 cases r3
 exact wpAny_truthy_bool ⟨H3, I3, q3⟩
theorem line63 : (sizeLine : Nat) < 2 ^ 63 := by rw [sizeLine_eq]; decide
theorem vals1 {x : V} {us : List Value} (r : Vals [x] us) : ∃ u, us = [u] ∧ RelV x u := by
 cases r with
 | cons r1 r2 => cases r2; exact ⟨_, rfl, r1⟩
theorem vals2 {x y : V} {us : List Value} (r : Vals [x, y] us) : ∃ u w', us = [u, w'] ∧ RelV x u ∧ RelV y w' := by
 cases r with
 | cons r1 r2 =>
  cases r2 with
  | cons r3 r4 => cases r4; exact ⟨_, _, rfl, r1, r3⟩
theorem call_min2 (hc : X.calm = true) : CallR X (.builtin "min") (fun xs H Q => ∃ i j, xs = [.int i, .int j] ∧ Q (.int (if j < i then j else i)) H) := by
 intro pins s σ H xs us Q I r h
 obtain ⟨i, j, rfl, q⟩ := h
 obtain ⟨u, w', rfl, ⟨t, rfl⟩, ⟨t', rfl⟩⟩ := vals2 r
 refine min_two_ints (I.ok.hd hc) fun h' tk k => ⟨_, H, I.kept k, ?_, q⟩
 by_cases hj : j < i
 ·rw [if_pos hj, if_pos hj]; exact ⟨_, rfl⟩
 ·rw [if_neg hj, if_neg hj]; exact ⟨_, rfl⟩
theorem call_int1 : CallR X (.type "int") (fun xs H Q => (∃ i, xs = [.int i] ∧ Q (.int i) H) ∨ ∃ k, xs = [.bl k] ∧ Q (.int (if k then 1 else 0)) H) := by
 intro pins s σ H xs us Q I r h
 rcases h with ⟨i, rfl, q⟩ | ⟨k, rfl, q⟩
 ·obtain ⟨u, rfl, t, rfl⟩ := vals1 r
  exact call_int_int ⟨.int i, H, I, ⟨_, rfl⟩, q⟩
 ·obtain ⟨u, rfl, r1⟩ := vals1 r
  cases r1
  exact call_int_bool ⟨.int (if k then 1 else 0), H, I.tok _, ⟨_, rfl⟩, q⟩
end
end L2
namespace L2
open PySem PySem.Spec PyProof.Rows
structure ObjM (h : Heap) (x dx C : Addr) (mA : Str → Option Value) : Prop where
 obj : h.get? x = some (PySem.W.instObj C dx)
 ns : h.Ns1 dx mA
 ne : dx ≠ x
theorem lookIn_ns {h : Heap} {dx : Addr} {mA : Str → Option Value} (n : h.Ns1 dx mA) : ∃ od, h.get? dx = some od ∧ ∀ name, PySem.W.lookIn name od = some (mA name) := by
 obtain ⟨o, es, ep, ho, hd, hk, _, hm⟩ := n
 refine ⟨o, ho, fun name => ?_⟩
 have e := hm name
 unfold nsFind findBy at e
 rw [← Array.find?_toList] at e
 unfold PySem.W.lookIn
 rw [hd]
 dsimp only
 split
 ·rename_i y q
  rw [q] at e
  exact congrArg some e
 ·rename_i q
  rw [q] at e
  have a : es.toList.any (·.refKey) = false := by
   rw [List.any_eq_false]
   intro y hy
   obtain ⟨z, t, hkey⟩ := hk y (Array.mem_toList_iff.mp hy)
   simp [DictEntry.refKey, hkey]
  have a' : ¬ es.toList.any (·.refKey) = true := by rw [a]; exact Bool.false_ne_true
  rw [if_neg a']
  exact congrArg some e
theorem ObjM.look {h : Heap} {x dx C : Addr} {mA : Str → Option Value} (I : ObjM h x dx C mA) : ∃ od, PySem.W.InstAt h x (PySem.W.instObj C dx) C (some od) ∧ ∀ name, PySem.W.lookIn name od = some (mA name) :=
 let ⟨od, ho, hl⟩ := lookIn_ns I.ns
 ⟨od, ⟨I.obj, rfl, rfl, ho⟩, hl⟩
section
variable {prog : Program} {w : World} {A : Around} {E : Value → Shared → Prop} {s : Shared} {K : PySem.W.Frag} {x dx C f : Addr} {mA : Str → Option Value} {name : Str} {v : Value}
end
section
variable {P : Program} {w : World} {H H' : Hp} {h h' : Heap} {a C dx : Addr} {fs fs' : List (Str × V)}
theorem ins_get (hok : HOk P w H h) (e : H a = some (.ins C dx fs)) : ∃ mA, ObjM h a dx C mA ∧ (∀ f, RelO (fs.lookup f) (mA f)) ∧ PySem.Within mA (fs.map (·.1)) ∧ fs.length ≤ 1000 ∧ H dx = some (.own a) := by
 obtain ⟨d, z, ne, ob, mA, n, r, q⟩ := (show ObjOk P w H h a (.ins C dx fs) from hok a _ e)
 exact ⟨mA, ⟨ob, n, ne⟩, r, q, z, d⟩
end
structure Cls (K : PySem.W.Frag) (C : Addr) : Prop where
 pg : PySem.W.plainGet K C Str.empty = true
 hd : PySem.W.hasDictIn K C = true
 po : PySem.W.plainOver K C = true
 sa : PySem.W.findIn K (.ref C) "__setattr__" = some (some (.builtin "object.__setattr__"))
theorem Cls.get {K : PySem.W.Frag} {C : Addr} (c : Cls K C) (f : Str) : PySem.W.plainGet K C f = true := c.pg
structure Con (K : PySem.W.Frag) (C : Addr) (f : Str) (v : V) (u : Value) : Prop where
 at_ : PySem.W.findIn K (.ref C) f = some (some u)
 rel : RelV v u
 get : PySem.W.specialIn K u "__get__" = some none
 cp : PySem.W.copiedNames.contains f = false
structure Meth (K : PySem.W.Frag) (C : Addr) (m : Str) (f : Addr) : Prop where
 at_ : PySem.W.findIn K (.ref C) m = some (some (.ref f))
 fn : PySem.W.isFn K (.ref f) = true
 kp : PySem.W.keepIn K (.ref f) = true
section
variable {X : Cx} {pins : List (Addr × Obj)} {σ : St} {H : Hp} {s : Shared} {a C dx : Addr} {fs : List (Str × V)} {f : Str} {v : V} {A : Around} {E : Value → Shared → Prop}
theorem Inv.made (I : Inv X pins σ H s) : Inv X pins σ (upd (upd H s.heap.objs.size (.own (s.heap.objs.size + 1))) (s.heap.objs.size + 1) (.ins C s.heap.objs.size []))
  { s with heap := (s.heap.push PySem.W.emptyDict).push (PySem.W.instObj C s.heap.objs.size) } := by
 have e1 : (s.heap.push PySem.W.emptyDict).get? s.heap.objs.size = some PySem.W.emptyDict := Heap.get?_push_size s.heap rfl
 have e2 : ((s.heap.push PySem.W.emptyDict).push (PySem.W.instObj C s.heap.objs.size)).get? (s.heap.objs.size + 1) = some (PySem.W.instObj C s.heap.objs.size) := by
  have := Heap.get?_push_size (s.heap.push PySem.W.emptyDict) (o := PySem.W.instObj C s.heap.objs.size) rfl
  rwa [Heap.size_push] at this
 have e3 : (s.heap.push PySem.W.emptyDict).Ns s.heap.objs.size (fun _ => none) := ⟨PySem.W.emptyDict, #[], _, e1, rfl, (fun e he => absurd he (by simp)), fun _ => rfl⟩
 have I1 := I.laid (a := s.heap.objs.size) (o := .own (s.heap.objs.size + 1)) (h' := s.heap.push PySem.W.emptyDict) (t' := s.toks) (fun b u q => Heap.get?_push_of_some _ q) (Nat.le_refl _) ⟨_, e1⟩
 refine I1.laid (a := s.heap.objs.size + 1) (o := .ins C s.heap.objs.size []) (t' := s.toks) (fun b u q => Heap.get?_push_of_some _ q) (Nat.le_of_eq (Heap.size_push _ _)) ?_
 have ne : s.heap.objs.size ≠ s.heap.objs.size + 1 := Nat.ne_of_lt (Nat.lt_succ_self _)
 refine ⟨by rw [upd_ne ne, upd_same], Nat.zero_le _, ne, e2, fun _ => none, (Heap.Ns1.of_empty e3).at fun o q => Heap.get?_push_of_some _ q, fun _ => True.intro, fun y hy => absurd rfl hy⟩
end
section
variable {X : Cx} {o e value : Expr} {f : Str} {pos pos' tpos : Pos} {ta tv : TE}
end
section
variable {X : Cx} {pins : List (Addr × Obj)} {σ : St} {H : Hp} {s : Shared} {A : Around} {E : Value → Shared → Prop} {Q : Value → Shared → Prop} {c : Value} {b : Bool}
inductive TyOf (K : PySem.W.Frag) (H : Hp) : V → Value → Prop where
 | non : TyOf K H .non (.type "NoneType")
 | bl (x : Bool) : TyOf K H (.bl x) (.type "bool")
 | int (i : Int) : TyOf K H (.int i) (.type "int")
 | str (x : Str) : TyOf K H (.str x) (.type "str")
 | flt (x : UInt64) : TyOf K H (.flt x) (.type "float")
 | lst {a : Addr} {xs : List V} (e : H a = some (.lst xs)) : TyOf K H (.ref a) (.type "list")
 | frz {a : Addr} {o : Obj} {xs : List V} (e : H a = some (.frz o (.lst xs))) : TyOf K H (.ref a) (.type "list")
 | tup {a : Addr} {xs : List V} (e : H a = some (.tup xs)) : TyOf K H (.ref a) (.type "tuple")
 | dK {a : Addr} {kvs : List (Key × V)} (e : H a = some (.dK kvs)) : TyOf K H (.ref a) (.type "dict")
 | dT {a : Addr} {kvs : List (List Key × V)} (e : H a = some (.dT kvs)) : TyOf K H (.ref a) (.type "dict")
 | ins {a C dx : Addr} {fs : List (Str × V)} (e : H a = some (.ins C dx fs)) (cl : Cls K C) (ha : PySem.W.findIn K (.ref C) "__class__" = some (some (.builtin "object.__class__")))
   (hn : PySem.W.specialIn K (.builtin "object.__class__") "__get__" = some (some (.builtin "getset_descriptor.__get__"))) (htk : PySem.W.takesIn K (.builtin "object.__class__") = some true)
   (hm : PySem.W.mroIn K C (.type "object") = some true) : TyOf K H (.ref a) (.ref C)
theorem isinst_ok {x : V} {u t : Value} (I : Inv X pins σ H s) (rx : RelV x u) (ty : TyOf X.K H x t) (e : PySem.W.kitOne X.K t c = some b) (h : ∀ tk, Q (.bool b) { s with toks := tk }) :
  wpAny (model X.prog X.w) A (call (.builtin "isinstance") [u, c]) Q E s := by
 cases ty with
 | non => cases (show u = Value.none from rx); exact PySem.W.kia_one PySem.W.kitx_none I.kIn True.intro e (fun z => nomatch z) h
 | bl y => cases (show u = Value.bool y from rx); exact PySem.W.kia_one PySem.W.kitx_bool I.kIn True.intro e (fun z => nomatch z) h
 | int i => obtain ⟨t, q⟩ := (show ∃ t, u = Value.int i t from rx); cases q; exact PySem.W.kia_one PySem.W.kitx_int I.kIn True.intro e (fun z => nomatch z) h
 | str y => obtain ⟨t, q⟩ := (show ∃ t, u = Value.str y t from rx); cases q; exact PySem.W.kia_one PySem.W.kitx_str I.kIn True.intro e (fun z => nomatch z) h
 | flt y => obtain ⟨t, q⟩ := (show ∃ t, u = Value.float y t from rx); cases q; exact PySem.W.kia_one PySem.W.kitx_float I.kIn True.intro e (fun z => nomatch z) h
 | @lst a xs ea =>
  cases (show u = Value.ref a from rx)
  obtain ⟨_, _, n, _, h1⟩ := (show ObjOk X.prog X.w H s.heap a (.lst xs) from I.hok a _ ea)
  exact PySem.W.kia_one PySem.W.kitx_list I.kIn ⟨_, h1, rfl⟩ e (fun z => nomatch z) h
 | @frz a ob xs ea =>
  cases (show u = Value.ref a from rx)
  obtain ⟨_, _, _, n, _, h1⟩ := (show ObjOk X.prog X.w H s.heap a (.frz ob (.lst xs)) from I.hok a _ ea)
  exact PySem.W.kia_one PySem.W.kitx_list I.kIn ⟨_, h1, rfl⟩ e (fun z => nomatch z) h
 | @tup a xs ea =>
  cases (show u = Value.ref a from rx)
  obtain ⟨_, _, _, p⟩ := (show ObjOk X.prog X.w H s.heap a (.tup xs) from I.hok a _ ea)
  obtain ⟨o, h1, h2, _⟩ := p
  exact PySem.W.kia_one PySem.W.kitx_tuple I.kIn ⟨o, h1, h2⟩ e (fun z => nomatch z) h
 | @dK a kvs ea =>
  cases (show u = Value.ref a from rx)
  obtain ⟨_, _, vs, _, p⟩ := (show ObjOk X.prog X.w H s.heap a (.dK kvs) from I.hok a _ ea)
  obtain ⟨o, es, ep, h1, h2, _⟩ := p
  exact PySem.W.kia_one PySem.W.kitx_dict I.kIn ⟨o, h1, h2.1⟩ e (fun z => nomatch z) h
 | @dT a kvs ea =>
  cases (show u = Value.ref a from rx)
  obtain ⟨_, _, xs, _, o, es, ep, h1, h2, _⟩ := (show ObjOk X.prog X.w H s.heap a (.dT kvs) from I.hok a _ ea)
  exact PySem.W.kia_one PySem.W.kitx_dict I.kIn ⟨o, h1, h2.1⟩ e (fun z => nomatch z) h
 | @ins a C dx fs ea cl ha hn htk hm =>
  cases (show u = Value.ref a from rx)
  obtain ⟨mA, O, _⟩ := ins_get I.hok ea
  obtain ⟨od, J, _⟩ := O.look
  exact PySem.W.kia_one (PySem.W.kitx_own (cl.get _) cl.hd ha hn htk hm) I.kIn J e (fun z => nomatch z) h
end
end L2
namespace L2
open PySem PySem.Spec PyProof.Rows
structure Room (k : Nat) (A : Around) : Prop where
 hd : A.handled = none
 dp : A.depth + 3 * k + 5 < recursionLimit
 un : A.units + 16 * k + 200 < cLine
 gd : A.guards = some []
theorem Room.mono {j k : Nat} {A : Around} (r : Room k A) (h : j ≤ k) : Room j A := ⟨r.hd, by have := r.dp; omega, by have := r.un; omega, r.gd⟩
theorem Room.deeper {k : Nat} {A : Around} (r : Room (k + 1) A) (env : Env) : Room k (A.deeper env) :=
 ⟨r.hd, by have := r.dp; show A.depth + 1 + 3 * k + 5 < _; omega, by have := r.un; show A.units + 3 + 16 * k + 200 < _; omega, r.gd⟩
theorem Room.in1 {k : Nat} {A : Around} (r : Room (k + 1) A) : Room k A.in1 :=
 ⟨r.hd, by have := r.dp; show A.depth + 3 * k + 5 < _; omega, by have := r.un; show A.units + 1 + 16 * k + 200 < _; omega, r.gd⟩
theorem Room.depth {k : Nat} {A : Around} (r : Room k A) : A.depth < recursionLimit := by have := r.dp; omega
theorem Room.units {k : Nat} {A : Around} (r : Room k A) : A.units + 64 < cLine := by have := r.un; omega
noncomputable def tNil : TA := fun _ H Q => Q [] H
noncomputable def tCons (ta : TE) (tr : TA) : TA := fun σ H Q => ta σ H fun x H1 => tr σ H1 fun xs H2 => Q (x :: xs) H2
section
variable {X : Cx} {e : Expr} {es : List Expr} {te : TE} {t : TA} {pos : Pos}
theorem pa_nil : PA X [] tNil := fun _ _ _ _ H Q I h => Calls.spliced_nil ⟨[], H, I, .nil, h⟩
theorem pa_cons (ha : PE X e te) (hr : PA X es t) (hs : starEach (e :: es) X.env = (false, eval e X.env) :: starEach es X.env := by rfl) : PA X (e :: es) (tCons te t) := by
 intro pos pins s σ H Q I h
 rw [hs]
 show wpAny _ _ (spliced ((false, eval e X.env) :: backTo pos (starEach es X.env))) _ _ s
 refine Calls.spliced_cons (thn (ha pins s σ H _ I h) fun u s1 ⟨x, H1, I1, r1, q1⟩ => ?_)
 exact thn (hr pos pins s1 σ H1 _ I1 q1) fun us s2 ⟨xs, H2, I2, r2, q2⟩ => ⟨x :: xs, H2, I2, .cons r1 r2, q2⟩
noncomputable def tTup (t : TA) : TE := fun σ H Q => t σ H fun xs H1 => xs.length ≤ sizeLine ∧ ∀ p, H1 p = none → Q (.ref p) (upd H1 p (.tup xs))
noncomputable def tLst (t : TA) : TE := fun σ H Q => t σ H fun xs H1 => xs.length ≤ sizeLine ∧ ∀ p, H1 p = none → Q (.ref p) (upd H1 p (.lst xs))
theorem pe_tup {x1} (h : PA X es t) : PE X (.Tuple es x1 pos) (tTup t) := by
 intro pins s σ H Q I hq
 refine wpAny_Tuple_spliced (thn (h pos pins s σ H _ I hq) fun us s1 ⟨xs, H1, I1, r, z, q⟩ => ⟨by rw [← r.length]; exact z, ?_⟩)
 have hf : H1 s1.heap.objs.size = none := I1.hok.fresh (Nat.le_refl _)
 refine ⟨.ref s1.heap.objs.size, upd H1 s1.heap.objs.size (.tup xs), I1.laid (t' := s1.toks) (fun b u e => Heap.get?_push_of_some _ e) (Nat.le_refl _) ?_, rfl, q _ hf⟩
 exact ⟨z, us, r, ⟨_, Heap.get?_push_size _ rfl, rfl, _, rfl⟩⟩
theorem pe_lst (h : PA X es t) : PE X (.List es pos) (tLst t) := by
 intro pins s σ H Q I hq
 refine wpAny_List_spliced (thn (h pos pins s σ H _ I hq) fun us s1 ⟨xs, H1, I1, r, z, q⟩ => ⟨by rw [← r.length]; exact z, ?_⟩)
 have hf : H1 s1.heap.objs.size = none := I1.hok.fresh (Nat.le_refl _)
 refine ⟨.ref s1.heap.objs.size, upd H1 s1.heap.objs.size (.lst xs), I1.laid (t' := s1.toks) (fun b u e => Heap.get?_push_of_some _ e) (Nat.le_refl _) ?_, rfl, q _ hf⟩
 exact ⟨z, us, 0, r, Heap.get?_push_size _ rfl⟩
end
noncomputable abbrev Sp := List V → Hp → VK → XK → Prop
noncomputable abbrev CXT := List Env → Hp → Shared → XK → Value → Shared → Prop
structure Env0 (P : Program) (w : World) (K : PySem.W.Frag) (mg : Str → Option Value) (base : Heap) (A : Around) (outer : List Env) (s : Shared) (H : Hp) : Prop where
 frames : A.frames = some outer
 mod : Mod K mg base
 bs : ∀ b o, base.get? b = some o → s.heap.get? b = some o ∧ H b = none
 bsz : base.objs.size ≤ s.heap.objs.size
 funs : s.heap.FunFrames base outer
 frf : ∀ b ∈ frs outer, H b = none
 hok : HOk P w H s.heap
 bare : AllBare s.gens
noncomputable def CE (outer : List Env) (P : Program) (w : World) (H : Hp) (s : Shared) (Q : VK) (u : Value) (s' : Shared) : Prop :=
 ∃ v H', s'.os = s.os ∧ AllBare s'.gens ∧ Un (frs outer) [] H H' s.heap s'.heap ∧ HOk P w H' s'.heap ∧ RelV v u ∧ Q v H'
noncomputable def CR (CX : CXT) (outer : List Env) (P : Program) (w : World) (H : Hp) (s : Shared) (Q : VK) (E : XK) (r : Result) (s' : Shared) : Prop :=
 match r with
 | .ok (.ret u) => CE outer P w H s Q u s'
 | .ok _ => False
 | .error e => CX outer H s E e s'
structure FnOk (P : Program) (w : World) (K : PySem.W.Frag) (mg : Str → Option Value) (base : Heap) (CX : CXT) (k : Nat) (f : Addr) (fd : FuncData) (ps : List Str) (sp : Sp) : Prop where
 len : ∀ vs H Q E, sp vs H Q E → vs.length = ps.length
 run : ∀ (A : Around) (outer : List Env) (s : Shared) (H : Hp) (args : Args) (us : List Value) (vs : List V) (Q : VK) (E : XK), Room k A → Env0 P w K mg base A outer s H → BindsTo s fd args (ps.zip us) → Vals vs us → sp vs H Q E →
  codeAny (model P w) A (.call (.ref f) args) (CR CX outer P w H s Q E) s
theorem FnOk.mono {P : Program} {w : World} {K : PySem.W.Frag} {mg : Str → Option Value} {base : Heap} {CX : CXT} {j k : Nat} {f : Addr} {fd : FuncData} {ps : List Str} {sp : Sp} (F : FnOk P w K mg base CX j f fd ps sp) (h : j ≤ k) :
  FnOk P w K mg base CX k f fd ps sp := ⟨F.len, fun A outer s H args us vs Q E hr => F.run A outer s H args us vs Q E (hr.mono h)⟩
theorem Env0.in1 {P : Program} {w : World} {K : PySem.W.Frag} {mg : Str → Option Value} {base : Heap} {A : Around} {outer : List Env} {s : Shared} {H : Hp} (e : Env0 P w K mg base A outer s H) :
  Env0 P w K mg base A.in1 outer s H := ⟨e.frames, e.mod, e.bs, e.bsz, e.funs, e.frf, e.hok, e.bare⟩
section
variable {X : Cx} {pins : List (Addr × Obj)} {σ : St} {H : Hp} {s s' : Shared}
theorem Inv.env0 (I : Inv X pins σ H s) : Env0 X.prog X.w X.K X.mg X.base X.A X.stack s H :=
 ⟨I.ok.frames, I.ok.mod, I.bs, Nat.le_trans I.ok.bsz I.sz, I.stack, I.stkFree, I.hok, I.bare⟩
theorem Inv.after {Q : VK} {u : Value} (I : Inv X pins σ H s) (h : CE X.stack X.prog X.w H s Q u s') : EP X pins σ Q u s' := by
 obtain ⟨v, H', os, bare, un, hok, r, q⟩ := h
 obtain ⟨hh, g, d, t, os'⟩ := s'
 obtain rfl : os' = s.os := os
 exact ⟨v, H', I.call (h' := hh) (g' := g) (d' := d) (t' := t) (ch := []) un hok bare (fun b z => absurd z (by simp)), r, q⟩
end
noncomputable def tCall (sp : Sp) (dvs : List V) (E : XK) (t : TA) : TE := fun σ H Q => t σ H fun vs H1 => sp (vs ++ dvs) H1 Q E
noncomputable def Binds (K : PySem.W.Frag) (fd : FuncData) (ps : List Str) (ds : List Value) : Prop :=
 ∀ (s : Shared) (us : List Value), K.In s.heap → (us ++ ds).length = ps.length → BindsTo s fd ⟨us, []⟩ (ps.zip (us ++ ds))
theorem Binds.all {K : PySem.W.Frag} {fd : FuncData} {ps : List Str} (h : ∀ us : List Value, us.length = ps.length → bindArgs fd ⟨us, []⟩ = pure (ps.zip us)) : Binds K fd ps [] := fun s us _ hl => by
 rw [List.append_nil] at hl ⊢
 exact .of_eq (h us hl)
noncomputable def Passes (CX : CXT) (X : Cx) (E : XK) : Prop := ∀ (pins : List (Addr × Obj)) (σ : St) (H : Hp) (s : Shared) (e : Value) (s' : Shared), Inv X pins σ H s → CX X.stack H s E e s' → X.xe e s'
section
variable {X : Cx} {CX : CXT} {k : Nat} {f C : Addr} {fd : FuncData} {ps : List Str} {sp : Sp} {dvs : List V} {ds : List Value} {E : XK} {x m : Str} {p pos apos : Pos} {e o : Expr} {es : List Expr} {ta : TE} {t : TA}
theorem run_fn {pins : List (Addr × Obj)} {σ : St} {H : Hp} {s : Shared} {Q : VK} {us : List Value} {vs : List V} (F : FnOk X.prog X.w X.K X.mg X.base CX k f fd ps sp) (hr : Room k X.A) (hb : Binds X.K fd ps ds) (hd : Vals dvs ds) (hx : Passes CX X E)
  (I : Inv X pins σ H s) (r : Vals vs us) (h : sp (vs ++ dvs) H Q E) : wpAny (model X.prog X.w) X.A (call (.ref f) us) (EP X pins σ Q) X.xe s := by
 have r2 : Vals (vs ++ dvs) (us ++ ds) := r.append hd
 have hl : (us ++ ds).length = ps.length := by rw [← r2.length]; exact F.len _ _ _ _ h
 refine wpAny_call (codeAny_mono (F.run X.A X.stack s H ⟨us, []⟩ (us ++ ds) (vs ++ dvs) Q E hr I.env0 (hb s us I.kIn hl) r2 h) fun r s' hq => ?_)
 cases r with
 | error e => exact hx pins σ H s e s' I hq
 | ok fl =>
  cases fl with
  | ret u => exact I.after hq
  | next => exact False.elim hq
  | brk => exact False.elim hq
  | cont => exact False.elim hq
theorem pe_call (F : FnOk X.prog X.w X.K X.mg X.base CX k f fd ps sp) (hr : Room k X.A) (hg : Gl X x) (hm : X.mg x = some (.ref f)) (hk : PySem.W.keepIn X.K (.ref f) = true) (hb : Binds X.K fd ps ds) (hd : Vals dvs ds) (hx : Passes CX X E)
  (ha : PA X (e :: es) t) (hdb : (x == ("__debug__" : Str)) = false := by decide) (he : starEach (e :: es) X.env = (false, eval e X.env) :: starEach es X.env := by rfl) (hpl : (backTo pos (starEach es X.env)).any (·.1) = false := by rfl) :
  PE X (.Call (.Name x p) (e :: es) [] pos) (tCall sp dvs E t) := by
 intro pins s σ H Q I h
 refine wpAny_Call_Name_kw (ld_glob I hg hm ?_ hdb)
 refine PySem.W.callWith_K (h₀ := X.base) I.ok.mod.kin hk (thn (ha pos pins s σ H _ I h) fun us s1 ⟨vs, H1, I1, r, q⟩ => ⟨I1.kIn, ?_⟩) he hpl
 exact run_fn F hr hb hd hx I1 r q
structure Mk (K : PySem.W.Frag) (C f : Addr) : Prop where
 makes : PySem.W.makesIn K C = true
 init : PySem.W.findIn K (.ref C) "__init__" = some (some (.ref f))
 fn : PySem.W.isFn K (.ref f) = true
 kp : PySem.W.keepIn K (.ref C) = true
end
section
variable {X : Cx} {CX : CXT} {k : Nat} {f C : Addr} {fd : FuncData} {ps ks : List Str} {sp : Sp} {E : XK} {x m : Str} {p pos apos kpos : Pos} {e o : Expr} {es : List Expr} {kws : List Keyword} {te ta : TE} {t tk : TA} {nm : Option Str}
structure KBinds (K : PySem.W.Frag) (fd : FuncData) (ps ks : List Str) (g : List Value → List Value → List Value) (gV : List V → List V → List V) : Prop where
 to : ∀ (s : Shared) (us ws : List Value), K.In s.heap → (g us ws).length = ps.length → BindsTo s fd ⟨us, ks.zip ws⟩ (ps.zip (g us ws))
 rel : ∀ {vs : List V} {us : List Value} {zs : List V} {ws : List Value}, Vals vs us → Vals zs ws → Vals (gV vs zs) (g us ws)
variable {g : List Value → List Value → List Value} {gV : List V → List V → List V}
end
structure FnScope (N P : List Str) (sc : Scope) : Prop where
 kind : sc.kind = .function
 co : sc.isCoroutine = false
 gen : sc.isGenerator = false
 nd : N.Nodup
 pre : N.take P.length = P
 par : ∀ x ∈ P, sc.names.lookup x = some .local ∨ sc.names.lookup x = some .cell
 nofree : ∀ y ∈ sc.names, y.2 ≠ .free
theorem bindL_out {kindOf : Str → Option NameKind} {x : Str} : ∀ {binds : List (Str × Value)} {m : Str → Option Value}, (∀ v, (x, v) ∉ binds) → bindL kindOf binds m x = m x
 | [], _, _ => rfl
 | (n, v) :: r, m, h => by
  unfold bindL
  rw [bindL_out fun w hw => h w (List.mem_cons_of_mem _ hw)]
  split
  ·have : x ≠ n := by rintro rfl; exact h v List.mem_cons_self
   simp [this]
  ·rfl
theorem bindC_out {kindOf : Str → Option NameKind} {x : Str} : ∀ {binds : List (Str × Value)} {m : Str → Option Value}, (∀ v, (x, v) ∉ binds) → bindC kindOf binds m x = m x
 | [], _, _ => rfl
 | (n, v) :: r, m, h => by
  unfold bindC
  rw [bindC_out fun w hw => h w (List.mem_cons_of_mem _ hw)]
  split
  ·rfl
  ·have : x ≠ n := by rintro rfl; exact h v List.mem_cons_self
   simp [this]
theorem bindL_get {kindOf : Str → Option NameKind} {x : Str} {v : Value} : ∀ {P : List Str} {vs : List Value} {i : Nat} {m : Str → Option Value}, P.Nodup → P[i]? = some x → vs[i]? = some v → kindOf x = some .local →
  bindL kindOf (P.zip vs) m x = some v
 | [], _, _, _, _, h, _, _ => by simp at h
 | _ :: _, [], _, _, _, _, h, _ => by simp at h
 | p :: P, w :: vs, 0, m, nd, h1, h2, hk => by
  simp at h1 h2; subst h1; subst h2
  show bindL kindOf ((p, w) :: P.zip vs) m p = _
  unfold bindL
  rw [bindL_out fun v hv => (List.nodup_cons.mp nd).1 (List.of_mem_zip hv).1, if_pos hk]
  simp
 | p :: P, w :: vs, i + 1, m, nd, h1, h2, hk => by
  show bindL kindOf ((p, w) :: P.zip vs) m x = _
  unfold bindL
  exact bindL_get (i := i) (List.nodup_cons.mp nd).2 (by simpa using h1) (by simpa using h2) hk
theorem bindC_get {kindOf : Str → Option NameKind} {x : Str} {v : Value} : ∀ {P : List Str} {vs : List Value} {i : Nat} {m : Str → Option Value}, P.Nodup → P[i]? = some x → vs[i]? = some v → kindOf x ≠ some .local →
  bindC kindOf (P.zip vs) m x = some v
 | [], _, _, _, _, h, _, _ => by simp at h
 | _ :: _, [], _, _, _, _, h, _ => by simp at h
 | p :: P, w :: vs, 0, m, nd, h1, h2, hk => by
  simp at h1 h2; subst h1; subst h2
  show bindC kindOf ((p, w) :: P.zip vs) m p = _
  unfold bindC
  rw [bindC_out fun v hv => (List.nodup_cons.mp nd).1 (List.of_mem_zip hv).1, if_neg hk]
  simp
 | p :: P, w :: vs, i + 1, m, nd, h1, h2, hk => by
  show bindC kindOf ((p, w) :: P.zip vs) m x = _
  unfold bindC
  exact bindC_get (i := i) (List.nodup_cons.mp nd).2 (by simpa using h1) (by simpa using h2) hk
noncomputable def start (N : List Str) (vs : List V) : St := vs.map some ++ List.replicate (N.length - vs.length) none
noncomputable def cxOf (CX : CXT) (P : Program) (w : World) (K : PySem.W.Frag) (mg : Str → Option Value) (base : Heap) (N : List Str) (qual : Str) (scope : Scope) (f : Addr) (cd : Value) (A : Around) (outer : List Env) (s : Shared) (H : Hp) (E : XK) : Cx where
 prog := P
 w := w
 K := K
 mg := mg
 base := base
 A := A.deeper (envOfC qual scope s.heap.objs.size f cd)
 N := N
 s₀ := s
 H₀ := H
 env := envOfC qual scope s.heap.objs.size f cd
 outer := outer
 stack := envOfC qual scope s.heap.objs.size f cd :: outer
 ex := []
 calm := true
 fn := fun _ => true
 pn := []
 xe := fun e s' => wpAny (model P w) (A.deeper (envOfC qual scope s.heap.objs.size f cd)) (leaving (envOfC qual scope s.heap.objs.size f cd) e) (fun _ s'' => CX outer H s E e s'') (fun e' s'' => CX outer H s E e' s'') s'
theorem cell_has {sc : Scope} {n : Nat} {x : Str} (h : sc.names.lookup x = some .cell) : ∃ c, (cellsFrom n sc.names []).lookup x = some c := by
 have q := PySem.W.cellsFrom_some sc.names n [] (.inl h)
 exact Option.isSome_iff_exists.mp q
theorem inv_start {CX : CXT} {P : Program} {w : World} {K : PySem.W.Frag} {mg : Str → Option Value} {base : Heap} {N ps : List Str} {qual : Str} {scope : Scope} {f : Addr} {cd : Value} {A : Around} {outer : List Env} {s s1 : Shared} {H : Hp} {E : XK} {us : List Value} {vs : List V}
  (S : FnScope N ps scope) (hd : A.handled = none) (e0 : Env0 P w K mg base A outer s H) (hl : vs.length = ps.length) (r : Vals vs us)
  (x : InCallC s s.heap.objs.size (bindL (envOfC qual scope s.heap.objs.size f cd).kindOf (ps.zip us) fun _ => none) (cellsFrom (s.heap.objs.size + 1) scope.names []) (bindC (envOfC qual scope s.heap.objs.size f cd).kindOf (ps.zip us) fun _ => none) s1) :
  Inv (cxOf CX P w K mg base N qual scope f cd A outer s H E) [] (start N vs) H s1 := by
 have hpl : ps.length ≤ N.length := by have := congrArg List.length S.pre; rw [List.length_take] at this; omega
 obtain ⟨h1, tk, rfl, hk⟩ := x.done
 have noA : ∀ b : Addr, b ∉ (cxOf CX P w K mg base N qual scope f cd A outer s H E).ex := fun b z => absurd (show b ∈ ([] : List Addr) from z) (by simp)
 refine ⟨⟨e0.mod, S.kind, rfl, rfl, Nat.le_refl _, fun y z c h1 h2 => ?_, fun y hy => ?_, fun y c _ h => ?_, fun _ => hd, Around.frames_deeper e0.frames, .inr ⟨rfl, rfl⟩, fun b z => absurd z (noA b), e0.bs, e0.bsz, fun b _ _ => noA b, fun b z => absurd z (noA b), e0.funs, e0.frf⟩,
  rfl, e0.bare, Un.kept hk, ⟨_, x.toInCall.ns, fun i y v h1 h2 h3 => ?_⟩, fun y c h => ⟨_, x.cell y c h⟩, e0.hok.fresh (Nat.le_refl _), fun y c h => ?_, fun p hp => absurd (show p ∈ ([] : List (Addr × Obj)) from hp) (by simp), e0.hok.kept hk, ?_⟩
 ·exact name_of_addr x.apart (PySem.mem_of_lookup h1) (PySem.mem_of_lookup h2)
 ·have hy : scope.names.lookup y = some .cell ∨ scope.names.lookup y = some .free := hy
  rcases hy with hy | hy
  ·exact cell_has hy
  ·exact absurd rfl (S.nofree _ (PySem.mem_of_lookup hy))
 ·exact Nat.le_of_lt (x.above y c (PySem.mem_of_lookup h))
 ·have hi : i < vs.length := by
   unfold start at h2
   by_cases hi : i < vs.length
   ·exact hi
   ·rw [List.getElem?_append_right (by simpa using hi)] at h2
    rw [List.getElem?_replicate] at h2
    split at h2 <;> cases h2
  have ha : vs[i]? = some v := by
   unfold start at h2
   rw [List.getElem?_append_left (by simpa using hi), List.getElem?_map] at h2
   cases e : vs[i]? with
   | none => rw [e] at h2; cases h2
   | some a => rw [e] at h2; cases h2; rfl
  obtain ⟨u, hu, rv⟩ := r.get ha
  have hp : ps[i]? = some y := by
   rw [← S.pre, List.getElem?_take_of_lt (by omega)]; exact h1
  have ndP : ps.Nodup := by rw [← S.pre]; exact S.nd.sublist (List.take_sublist _ _)
  refine ⟨u, rv, ?_⟩
  rcases S.par y (List.mem_of_getElem? hp) with k | k
  ·exact .inl ⟨k, bindL_get ndP hp hu k⟩
  ·obtain ⟨c, e⟩ := cell_has (n := s.heap.objs.size + 1) k
   refine .inr ⟨.inl k, c, e, ?_⟩
   have q := x.cell y c e
   rw [bindC_get ndP hp hu (by show scope.names.lookup y ≠ _; rw [k]; decide)] at q
   exact q
 ·exact e0.hok.fresh (Nat.le_of_lt (x.above y c (PySem.mem_of_lookup h)))
 ·unfold start
  show _ = N.length
  rw [List.length_append, List.length_map, List.length_replicate]
  omega
theorem fn_of {CX : CXT} {P : Program} {w : World} {K : PySem.W.Frag} {mg : Str → Option Value} {base : Heap} {k : Nat} {f : Addr} {name qual : Str} {params : Arguments} {body : List Stmt} {scope : Scope} {dV kV doc pm cdv ct oc : Value} {an od : Option Addr}
  {osl : Array (Option Value)} {N ps : List Str} {sp : Sp} (lk : K.lookup f = some ⟨oc, od, .func (PySem.W.fnOf name qual params body scope dV kV doc pm an cdv ct), osl⟩) (hcd : PySem.W.codeIn K cdv qual = true) (S : FnScope N ps scope)
  (len : ∀ vs H Q E, sp vs H Q E → vs.length = ps.length)
  (hbody : ∀ (A : Around) (outer : List Env) (s : Shared) (H : Hp) (vs : List V) (Q : VK) (E : XK), Room k (A.deeper (envOfC qual scope s.heap.objs.size f cdv)) → sp vs H Q E →
   ∃ t, PSs (cxOf CX P w K mg base N qual scope f cdv A outer s H E) body t ∧ t { nx := fun _ H' => Q .non H', rt := Q } (start N vs) H) :
  FnOk P w K mg base CX (k + 1) f (PySem.W.fnOf name qual params body scope dV kV doc pm an cdv ct) ps sp := by
 refine ⟨len, fun A outer s H args us vs Q E hr e0 hb r hsp => ?_⟩
 have hl := len _ _ _ _ hsp
 have KX : K.In s.heap := e0.mod.kin.keeps fun b o e => (e0.bs b o e).1
 have lim : s.heap.NoLimit := e0.mod.nolimit.keeps fun b o e => (e0.bs b o e).1
 have hkind : ∀ y ∈ ps.zip us, scope.names.lookup y.1 = some .local ∨ (scope.names.lookup y.1 = some .cell ∧ ((cellsFrom (s.heap.objs.size + 1) scope.names []).lookup y.1).isSome = true) := fun hq0 hy => by
  obtain ⟨n, v⟩ := hq0
  rcases S.par n (List.of_mem_zip hy).1 with q | q
  ·exact .inl q
  ·exact .inr ⟨q, PySem.W.cellsFrom_some _ _ _ (.inl q)⟩
 refine codeAny_call_function hr.depth (KX _ _ lk) rfl S.co S.gen rfl (PySem.W.codeRec_of KX hcd) (hb _ _ _ _ ?_)
 refine wpAny_newFunctionEnv_cells S.kind hkind fun env he s1 x => ?_
 subst he
 refine ⟨lim.keeps x.toInCall.keep, codeAny_func ?_⟩
 obtain ⟨t, ht, hq⟩ := hbody A outer s H vs Q E (hr.deeper _) hsp
 have I : Inv (cxOf CX P w K mg base N qual scope f cdv A outer s H E) [] (start N vs) H s1 := inv_start S hr.hd e0 hl r x
 refine wpAny_mono (ht [] s1 (start N vs) H _ I hq) (fun fl s' hs => ?_) fun e s' hs => hs
 have fin : ∀ {σ' : St} {H' : Hp} {v : V} {u : Value}, Inv (cxOf CX P w K mg base N qual scope f cdv A outer s H E) [] σ' H' s' → RelV v u → Q v H' → CE outer P w H s Q u s' :=
  fun {σ' H' v u} J rv q => ⟨v, H', J.os, J.bare, J.base, J.hok, rv, q⟩
 cases fl with
 | ret u =>
  obtain ⟨v, σ', H', J, rv, q⟩ := hs
  exact fin J rv q
 | next =>
  obtain ⟨σ', H', J, q⟩ := hs
  exact fin (v := V.non) (u := Value.none) J rfl q
 | brk =>
  obtain ⟨_, _, _, q⟩ := hs
  exact False.elim q
 | cont =>
  obtain ⟨_, _, _, q⟩ := hs
  exact False.elim q
end L2
namespace L2
open PySem PySem.Spec PyProof.Rows
section
variable {X : Cx} {x : Str} {p pos : Pos} {e : Expr} {es : List Expr} {t : TA} {id T : String} {r : List V → Hp → VK → Prop}
noncomputable def tCB (r : List V → Hp → VK → Prop) (t : TA) : TE := fun σ H Q => t σ H fun vs H1 => r vs H1 Q
theorem pe_callB (hc : CallR X (.builtin id) r) (hg : Gl X x) (hm : X.mg x = none) (hv : bootBuiltins x = some (.builtin id)) (ha : PA X (e :: es) t) (hn : x ≠ "__name__" := by decide) (hdb : (x == ("__debug__" : Str)) = false := by decide)
  (he : starEach (e :: es) X.env = (false, eval e X.env) :: starEach es X.env := by rfl) (hpl : (backTo pos (starEach es X.env)).any (·.1) = false := by rfl) : PE X (.Call (.Name x p) (e :: es) [] pos) (tCB r t) := by
 intro pins s σ H Q I h
 refine wpAny_Call_Name_kw (ld_blt I hg hm hv ?_ hn hdb)
 exact PyProof.Rows.callWith_builtin1 (thn (ha pos pins s σ H _ I h) fun us s1 ⟨vs, H1, I1, r1, q1⟩ => hc pins s1 σ H1 vs us Q I1 r1 q1) he hpl
theorem pe_callTy (hc : CallR X (.type T) r) (hg : Gl X x) (hm : X.mg x = none) (hv : bootBuiltins x = some (.type T)) (ha : PA X (e :: es) t) (hn : x ≠ "__name__" := by decide) (hdb : (x == ("__debug__" : Str)) = false := by decide)
  (he : starEach (e :: es) X.env = (false, eval e X.env) :: starEach es X.env := by rfl) (hpl : (backTo pos (starEach es X.env)).any (·.1) = false := by rfl) : PE X (.Call (.Name x p) (e :: es) [] pos) (tCB r t) := by
 intro pins s σ H Q I h
 refine wpAny_Call_Name_kw (ld_blt I hg hm hv ?_ hn hdb)
 exact PyProof.Rows.callWith_type1 (thn (ha pos pins s σ H _ I h) fun us s1 ⟨vs, H1, I1, r1, q1⟩ => hc pins s1 σ H1 vs us Q I1 r1 q1) he hpl
end
end L2
namespace HT
open PySem PyProof.Rows
section
open PySem.SeqAt
open PySem.AutoSeq1 (wpAny_loadPart')
open PySem.MeetsSeq PySem.MeetsSeq2 PySem.MeetsSeq3
end
section
variable {prog : Program} {w : World} {A : Around} {E : Value → Shared → Prop} {s : Shared}
noncomputable def sIx (n d : Nat) : Option Int → Nat
 | none => d
 | some v => if v < 0 then (v + (n : Int)).toNat else min v.toNat n
end
end HT
namespace L2
open PySem PySem.Spec PyProof.Rows
noncomputable abbrev TO := St → Hp → (Option Int → Hp → Prop) → Prop
noncomputable def PO (X : Cx) (e : Option Expr) (t : TO) : Prop :=
 ∀ (pins : List (Addr × Obj)) (s : Shared) (σ : St) (H : Hp) (Q : Option Int → Hp → Prop), Inv X pins σ H s → t σ H Q →
  wpAny (model X.prog X.w) X.A (evalPart e X.env) (fun u s' => ∃ o H', Inv X pins σ H' s' ∧ IsPart u o ∧ Q o H') X.xe s
noncomputable def tNoPart : TO := fun _ H Q => Q none H
noncomputable def tPart (t : TE) : TO := fun σ H Q => t σ H fun x H1 => ∃ i, x = .int i ∧ Q (some i) H1
theorem intsAre_of {ns : List Int} : ∀ {us : List Value}, Vals (ns.map V.int) us → IntsAre us ns := by
 induction ns with
 | nil => intro us r; rw [List.map_nil] at r; cases r; exact .nil
 | cons n ns ih =>
  intro us r
  rw [List.map_cons] at r
  cases r with
  | cons r1 r2 =>
   obtain ⟨t, e⟩ := r1
   subst e
   exact .cons n t (ih r2)
section
variable {X : Cx} {e : Expr} {te : TE} {lo hi : Option Expr} {tl th : TO} {pos p2 : Pos}
theorem po_none : PO X none tNoPart := by
 intro pins s σ H Q I h
 rw [evalPart_none]
 exact wpAny_pure ⟨none, H, I, .none, h⟩
theorem po_some (h : PE X e te) : PO X (some e) (tPart te) := by
 intro pins s σ H Q I hw
 rw [evalPart_some]
 refine thn (h pins s σ H _ I hw) fun u s1 ⟨x, H1, I1, r1, q1⟩ => ?_
 obtain ⟨i, rfl, q⟩ := q1
 obtain ⟨t, rfl⟩ := r1
 exact ⟨some i, H1, I1, .int i t, q⟩
noncomputable def SlR (X : Cx) (r : V → Option Int → Option Int → Hp → VK → Prop) : Prop :=
 ∀ (pins : List (Addr × Obj)) (s : Shared) (σ : St) (H : Hp) (x : V) (v vl vu : Value) (lo hi : Option Int) (sl : Addr) (Q : VK), Inv X pins σ H s → RelV x v → s.heap.IsSliceOf sl vl vu .none → IsPart vl lo → IsPart vu hi → r x lo hi H Q →
  ∃ T id, typeLookup (.type T) "__getitem__" = pure (some (.builtin id)) ∧ s.TypeIs v T ∧ wpAny (model X.prog X.w) X.A (getItem v (.ref sl)) (EP X pins σ Q) X.xe s
theorem SlR.or {r r' : V → Option Int → Option Int → Hp → VK → Prop} (h : SlR X r) (h' : SlR X r') : SlR X (fun x lo hi H Q => r x lo hi H Q ∨ r' x lo hi H Q) := by
 intro pins s σ H x v vl vu lo hi sl Q I rx hs pl pu q
 rcases q with q | q
 ·exact h pins s σ H x v vl vu lo hi sl Q I rx hs pl pu q
 ·exact h' pins s σ H x v vl vu lo hi sl Q I rx hs pl pu q
noncomputable def tSl (r : V → Option Int → Option Int → Hp → VK → Prop) (te : TE) (tl th : TO) : TE := fun σ H Q => te σ H fun x H1 => tl σ H1 fun l H2 => th σ H2 fun u H3 => r x l u H3 Q
theorem pe_slice {r : V → Option Int → Option Int → Hp → VK → Prop} (hr : SlR X r) (he : PE X e te) (hl : PO X lo tl) (hu : PO X hi th) : PE X (.Subscript e (.Slice lo hi none p2) pos) (tSl r te tl th) := by
 intro pins s σ H Q I h
 refine Subscript_ (thn (he pins s σ H _ I h) fun v s1 ⟨x, H1, I1, r1, q1⟩ => ?_)
 refine wpAny_Slice (thn (hl pins s1 σ H1 _ I1 q1) fun vl s2 ⟨l, H2, I2, pl, q2⟩ => thn (hu pins s2 σ H2 _ I2 q2) fun vu s3 ⟨u, H3, I3, pu, q3⟩ => ?_)
 rw [evalPart_none]
 refine wpAny_pure ?_
 have I4 : Inv X pins σ H3 { s3 with heap := s3.heap.push { cls := .type "slice", data := .fields #[vl, vu, .none] } } := I3.kept (t' := s3.toks) fun b ob q => Heap.get?_push_of_some _ q
 obtain ⟨T, id, hT, ht, hg⟩ := hr pins { s3 with heap := s3.heap.push { cls := .type "slice", data := .fields #[vl, vu, .none] } } σ H3 x v vl vu l u s3.heap.objs.size Q I4 r1 (Heap.IsSliceOf.new ..) pl pu q3
 show wpAny (model X.prog X.w) X.A (subscriptTail e (.Slice lo hi none p2) v (.ref s3.heap.objs.size)) (EP X pins σ Q) X.xe { s3 with heap := s3.heap.push { cls := .type "slice", data := .fields #[vl, vu, .none] } }
 exact tail_any (ops := [.ref s3.heap.objs.size, v]) ht hT hg (by with_unfolding_all rfl)
noncomputable def cutV (xs : List V) (lo hi : Option Int) : List V := (xs.drop (HT.sIx xs.length 0 lo)).take (HT.sIx xs.length xs.length hi - HT.sIx xs.length 0 lo)
theorem cutV_length (xs : List V) (lo hi : Option Int) : (cutV xs lo hi).length ≤ xs.length := by
 unfold cutV
 rw [List.length_take, List.length_drop]
 omega
end
end L2
namespace L2
open PySem PySem.Spec PyProof.Rows
noncomputable def ixN (n : Nat) (i : Int) : Option Nat := if 0 ≤ i then (if i < n then some i.toNat else none) else if -(n : Int) ≤ i then some (i + n).toNat else none
noncomputable def atI {α : Type} (xs : List α) (i : Int) : Option α := (ixN xs.length i).bind fun j => xs[j]?
theorem ixN_seq {n : Nat} {i : Int} {j : Nat} (h : ixN n i = some j) : seqIndex? i n = some j ∧ j < n ∧ -(n : Int) ≤ i ∧ i < n := by
 unfold ixN at h
 by_cases h0 : 0 ≤ i
 ·rw [if_pos h0] at h
  by_cases h1 : i < n
  ·rw [if_pos h1] at h
   have e : i.toNat = j := Option.some.inj h
   exact ⟨by rw [seqIndex_of h0 h1, e], by omega, by omega, h1⟩
  ·rw [if_neg h1] at h; cases h
 ·rw [if_neg h0] at h
  by_cases h1 : -(n : Int) ≤ i
  ·rw [if_pos h1] at h
   have e : (i + n).toNat = j := Option.some.inj h
   exact ⟨by rw [seqIndex_neg (by omega) h1, e], by omega, h1, by omega⟩
  ·rw [if_neg h1] at h; cases h
theorem atI_get {α : Type} {xs : List α} {i : Int} {v : α} (h : atI xs i = some v) : ∃ j, seqIndex? i xs.length = some j ∧ xs[j]? = some v ∧ j < xs.length ∧ -(xs.length : Int) ≤ i ∧ i < xs.length := by
 unfold atI at h
 cases e : ixN xs.length i with
 | none => rw [e] at h; cases h
 | some j =>
  rw [e] at h
  obtain ⟨h1, h2, h3, h4⟩ := ixN_seq e
  exact ⟨j, h1, h, h2, h3, h4⟩
theorem atI_nat {α : Type} {xs : List α} {j : Nat} {v : α} (h : xs[j]? = some v) : atI xs (j : Int) = some v := by
 have hj : j < xs.length := (List.getElem?_eq_some_iff.mp h).1
 have e : ixN xs.length (j : Int) = some j := by
  unfold ixN
  rw [if_pos (by omega), if_pos (by omega)]; simp
 unfold atI; rw [e]; exact h
noncomputable def PlainIx (b : Expr) : Prop := ∀ o i, subscripted b false o i = operate [o, i] (getItem o i)
noncomputable def IxR (X : Cx) (r : R2) : Prop :=
 ∀ (value slice : Expr) (pins : List (Addr × Obj)) (s : Shared) (σ : St) (H : Hp) (x y : V) (v u : Value) (Q : VK), Inv X pins σ H s → RelV x v → RelV y u → r x y H Q →
  subscripted slice false v u = operate [v, u] (getItem v u) → wpAny (model X.prog X.w) X.A (subscriptTail value slice v u) (EP X pins σ Q) X.xe s
noncomputable def MtR (X : Cx) (id : String) (r : V → List V → Hp → VK → Prop) : Prop :=
 ∀ (pins : List (Addr × Obj)) (s : Shared) (σ : St) (H : Hp) (x : V) (xs : List V) (v : Value) (us : List Value) (Q : VK), Inv X pins σ H s → RelV x v → Vals xs us → r x xs H Q →
  wpAny (model X.prog X.w) X.A (call (.builtin id) (v :: us)) (EP X pins σ Q) X.xe s
section
variable {X : Cx} {a b : Expr} {ta tb : TE} {pos : Pos}
theorem IxR.or {r r' : R2} (h : IxR X r) (h' : IxR X r') : IxR X (fun x y H Q => r x y H Q ∨ r' x y H Q) := by
 intro value slice pins s σ H x y v u Q I rx ry q hs
 rcases q with q | q
 ·exact h value slice pins s σ H x y v u Q I rx ry q hs
 ·exact h' value slice pins s σ H x y v u Q I rx ry q hs
theorem MtR.or {id : String} {r r' : V → List V → Hp → VK → Prop} (h : MtR X id r) (h' : MtR X id r') : MtR X id (fun x xs H Q => r x xs H Q ∨ r' x xs H Q) := by
 intro pins s σ H x xs v us Q I rx rs q
 rcases q with q | q
 ·exact h pins s σ H x xs v us Q I rx rs q
 ·exact h' pins s σ H x xs v us Q I rx rs q
theorem pe_ix {r : R2} (hr : IxR X r) (ha : PE X a ta) (hb : PE X b tb) (hs : PlainIx b) : PE X (.Subscript a b pos) (tOp r ta tb) := by
 intro pins s σ H Q I h
 exact Subscript_ (binT ha hb I h fun v u s2 x y H2 I2 rx ry q => hr a b pins s2 σ H2 x y v u Q I2 rx ry q (hs _ _))
noncomputable def rIxL (K : PySem.W.Frag) : R2 := fun x y H Q => ∃ p xs i v, x = .ref p ∧ y = .int i ∧ SqL K H p xs ∧ atI xs i = some v ∧ Q v H
noncomputable def rIxT (K : PySem.W.Frag) : R2 := fun x y H Q => ∃ p xs i v, x = .ref p ∧ y = .int i ∧ SqT K H p xs ∧ atI xs i = some v ∧ Q v H
noncomputable def rIxS : R2 := fun x y H Q => ∃ z i c, x = .str z ∧ y = .int i ∧ z.length ≤ sizeLine ∧ atI z.cps.toList i = some c ∧ Q (.str ⟨#[c]⟩) H
theorem ix_list : IxR X (rIxL X.K) := by
 intro value slice pins s σ H x y v u Q I rx ry h hs
 obtain ⟨p, xs, i, z, rfl, rfl, hq, he, q⟩ := h
 cases rx
 obtain ⟨t, rfl⟩ := ry
 obtain ⟨its, r, pl, hz⟩ := I.list hq
 obtain ⟨j, h1, h2, h3, h4, h5⟩ := atI_get he
 obtain ⟨w, ew, rw'⟩ := r.get h2
 have hl := r.length
 have hn := line63
 have fin : EP X pins σ Q w s := ⟨z, H, I, rw', q⟩
 by_cases h0 : 0 ≤ i
 ·have hj : i.toNat = j := by
   rw [seqIndex_of h0 h5] at h1
   exact Option.some.inj h1
  exact item_listR pl.isList h0 (by omega) (by rw [hj]; simpa using ew) fin hs
 ·have hj : (i + (its.toArray.size : Int)).toNat = j := by
   rw [seqIndex_neg (by omega) h4] at h1
   rw [List.size_toArray, ← hl]
   exact Option.some.inj h1
  exact subscriptTail_builtinR (x := w) pl.isList.typeIs slot_list_getitem.lookup
   (wpAny_getItem_list_neg (Q := fun r s' => r = w ∧ EP X pins σ Q r s') pl.isList (by omega) (by rw [List.size_toArray] <;> omega) (by omega) (by rw [hj]; simpa using ew) ⟨rfl, fin⟩) hs
theorem ix_tup : IxR X (rIxT X.K) := by
 intro value slice pins s σ H x y v u Q I rx ry h hs
 obtain ⟨p, xs, i, z, rfl, rfl, hq, he, q⟩ := h
 cases rx
 obtain ⟨t, rfl⟩ := ry
 obtain ⟨its, r, pl, hz⟩ := I.tuple hq
 obtain ⟨j, h1, h2, h3, h4, h5⟩ := atI_get he
 obtain ⟨w, ew, rw'⟩ := r.get h2
 have hl := r.length
 have hn := line63
 have fin : EP X pins σ Q w s := ⟨z, H, I, rw', q⟩
 exact subscriptTail_builtinR (x := w) pl.typeIs slot_tuple_getitem.lookup
  (getItem_tuple (j := j) (Q := fun r s' => r = w ∧ EP X pins σ Q r s') pl (by omega) (by omega) (by rw [List.size_toArray, ← hl]; exact h1) (by simpa using ew) ⟨rfl, fin⟩) hs
theorem ix_str : IxR X rIxS := by
 intro value slice pins s σ H x y v u Q I rx ry h hs
 obtain ⟨z, i, c, rfl, rfl, hz, he, q⟩ := h
 obtain ⟨t, rfl⟩ := rx
 obtain ⟨t', rfl⟩ := ry
 obtain ⟨j, h1, h2, h3, h4, h5⟩ := atI_get he
 have hl : z.cps.toList.length = z.length := by simp [Str.length]
 rw [hl] at h1 h4 h5
 have hn := line63
 exact tail_any (typeIs_str s z t) slot_str_getitem.lookup (getItem_str (c := c) (by
  have e1 : decide (i < -(2 ^ 63 : Int)) = false := decide_eq_false (by omega)
  have e2 : decide (i ≥ 2 ^ 63) = false := decide_eq_false (by omega)
  rw [e1, e2, Bool.or_false]) (by rw [h1]; simpa using h2) ⟨.str ⟨#[c]⟩, H, I.tok _, ⟨_, rfl⟩, q⟩) hs
noncomputable def rIx (K : PySem.W.Frag) : R2 := fun x y H Q => rIxL K x y H Q ∨ rIxT K x y H Q ∨ rIxS x y H Q
theorem ix_seq : IxR X (rIx X.K) := ix_list.or (ix_tup.or ix_str)
theorem mapSeq_set (its : List Value) (n j : Nat) (u : Value) : Obj.mapSeq (·.setIfInBounds j u) { cls := .type "list", data := .seq its.toArray n } = { cls := .type "list", data := .seq (its.set j u).toArray n } := by
 simp [Obj.mapSeq]
theorem Inv.lst {pins : List (Addr × Obj)} {σ : St} {H : Hp} {s : Shared} {p : Addr} {xs : List V} (I : Inv X pins σ H s) (h : H p = some (.lst xs)) :
  ∃ (its : List Value) (n : Nat), Vals xs its ∧ s.heap.get? p = some { cls := .type "list", data := .seq its.toArray n } ∧ xs.length ≤ sizeLine := by
 obtain ⟨z, its, n, r, e⟩ := I.hok p _ h
 exact ⟨its, n, r, e, z⟩
theorem Inv.lstUpd {pins : List (Addr × Obj)} {σ : St} {H : Hp} {s : Shared} {p : Addr} {xs ys : List V} {its its' : List Value} {n n' : Nat} {f : Obj → Obj} (I : Inv X pins σ H s) (h : H p = some (.lst xs))
  (ho : s.heap.get? p = some { cls := .type "list", data := .seq its.toArray n }) (hf : f { cls := .type "list", data := .seq its.toArray n } = { cls := .type "list", data := .seq its'.toArray n' }) (r : Vals ys its') (hz : ys.length ≤ sizeLine) (t : Nat) :
  Inv X pins σ (upd H p (.lst ys)) { s with heap := s.heap.update p f, toks := t } := by
 have e : (s.heap.update p f).get? p = some { cls := .type "list", data := .seq its'.toArray n' } := by
  rw [Heap.get?_update_self f ho (by rw [hf] <;> rfl), hf]
 refine I.write (x := p) (e := p) (by rw [h]; trivial) (.inl rfl) (fun b u hb q => (Heap.get?_update_other _ _ (Ne.symm hb)).trans q) ⟨_, e⟩ ?_
 exact ⟨hz, its', n', r, e⟩
noncomputable def rSetL : V → V → V → Hp → (Hp → Prop) → Prop := fun o i v H Q => ∃ p xs k j, o = .ref p ∧ i = .int k ∧ H p = some (.lst xs) ∧ ixN xs.length k = some j ∧ Q (upd H p (.lst (xs.set j v)))
theorem set_list : PSet X rSetL := by
 intro pins s σ H o i v ov iv u Q I ro ri rv h
 obtain ⟨p, xs, k, j, rfl, rfl, hp, hj, q⟩ := h
 cases ro
 obtain ⟨t, rfl⟩ := ri
 obtain ⟨its, n, r, ho, hz⟩ := I.lst hp
 obtain ⟨h1, h2, h3, h4⟩ := ixN_seq hj
 have hl := r.length
 have hn := line63
 have I' : Inv X pins σ (upd H p (.lst (xs.set j v))) { s with heap := s.heap.update p (Obj.mapSeq (·.setIfInBounds j u)) } :=
  I.lstUpd hp ho (mapSeq_set its n j u) (r.set rv j) (by rw [List.length_set]; exact hz) s.toks
 by_cases h0 : 0 ≤ k
 ·have hk : k.toNat = j := by
   rw [seqIndex_of h0 h4] at h1
   exact Option.some.inj h1
  exact PySem.W.ki_setAt ho h0 (by omega) (by rw [List.size_toArray, ← hl]; exact h4) (by rw [hk]; exact ⟨_, I', q⟩)
 ·have hk : (k + (its.toArray.size : Int)).toNat = j := by
   rw [seqIndex_neg (by omega) h3] at h1
   rw [List.size_toArray, ← hl]
   exact Option.some.inj h1
  exact PySem.W.ki_setBack ho (by omega) (by rw [List.size_toArray, ← hl]; exact h3) (by omega) (by rw [hk]; exact ⟨_, I', q⟩)
theorem slice_bounds (lo hi : Option Int) (n : Nat) : (sliceBounds lo hi none n).1 = ((HT.sIx n 0 lo : Nat) : Int) ∧ (sliceBounds lo hi none n).2.1 = ((HT.sIx n n hi : Nat) : Int) ∧ (sliceBounds lo hi none n).2.2 = 1 := by
 refine ⟨?_, ?_, rfl⟩
 ·cases lo with
  | none => simp [sliceBounds, HT.sIx]
  | some i =>
   simp only [sliceBounds, HT.sIx, Option.getD_none, show (1 : Int) > 0 by decide, if_true]
   by_cases h : i < 0
   ·simp only [h, if_true] <;> omega
   ·simp only [h, if_false] <;> omega
 ·cases hi with
  | none => simp [sliceBounds, HT.sIx]
  | some i =>
   simp only [sliceBounds, HT.sIx, Option.getD_none, show (1 : Int) > 0 by decide, if_true]
   by_cases h : i < 0
   ·simp only [h, if_true] <;> omega
   ·simp only [h, if_false] <;> omega
theorem slicePick_cut (its : List Value) (lo hi : Option Int) : slicePick its.toArray lo hi none = ((its.drop (HT.sIx its.length 0 lo)).take (HT.sIx its.length its.length hi - HT.sIx its.length 0 lo)).toArray := by
 obtain ⟨h1, h2, h3⟩ := slice_bounds lo hi its.toArray.size
 unfold slicePick
 rw [h1, h2, h3]
 simp only [sliceRange_one, pick_run, List.size_toArray] <;> rfl
noncomputable def rSlL (K : PySem.W.Frag) : V → Option Int → Option Int → Hp → VK → Prop := fun x lo hi H Q => ∃ a xs, x = .ref a ∧ SqL K H a xs ∧ ∀ p, H p = none → Q (.ref p) (upd H p (.lst (cutV xs lo hi)))
theorem sl_list : SlR X (rSlL X.K) := by
 intro pins s σ H x v vl vu lo hi sl Q I rx hs pl pu h
 obtain ⟨a, xs, rfl, hx, q⟩ := h
 cases rx
 obtain ⟨its, r, ht, hz⟩ := I.list hx
 have hlen := r.length
 refine ⟨"list", _, slot_list_getitem.lookup, ht.isList.typeIs, ?_⟩
 refine wpAny_getItem_list_slice ht.isList hs pl pu .none (by simp) ?_ (by rw [List.size_toArray] <;> omega)
 rw [slicePick_cut, ← hlen]
 refine ⟨.ref s.heap.objs.size, _, I.laid (t' := s.toks) (o := .lst (cutV xs lo hi)) (fun b ob q => Heap.get?_push_of_some _ q) (Nat.le_refl _) ?_, rfl, q _ (I.hok.fresh (Nat.le_refl _))⟩
 exact ⟨Nat.le_trans (cutV_length xs lo hi) hz, _, 0, (r.drop (HT.sIx xs.length 0 lo)).take (HT.sIx xs.length xs.length hi - HT.sIx xs.length 0 lo), Heap.get?_push_size _ rfl⟩
theorem call_len_seq : CallR X (.builtin "len") (fun xs H Q => ∃ p ys, xs = [.ref p] ∧ (SqL X.K H p ys ∨ SqT X.K H p ys) ∧ Q (.int ys.length) H) := by
 intro pins s σ H xs us Q I r h
 obtain ⟨p, ys, rfl, hq, q⟩ := h
 obtain ⟨u, rfl, rx⟩ := vals1 r
 cases rx
 have hn := line63
 rcases hq with hq | hq
 ·obtain ⟨its, r', pl, hz⟩ := I.list hq
  have hlen := r'.length
  exact Calls.call_len_list pl.isList (by simp only [List.size_toArray] <;> omega) ⟨.int ys.length, H, I.tok _, ⟨s.toks + 1, by rw [List.size_toArray, hlen]⟩, q⟩
 ·obtain ⟨its, r', pl, hz⟩ := I.tuple hq
  have hlen := r'.length
  exact len_tuple pl (by simp only [List.size_toArray] <;> omega) ⟨.int ys.length, H, I.tok _, ⟨s.toks + 1, by rw [List.size_toArray, hlen]⟩, q⟩
theorem call_len_str : CallR X (.builtin "len") (fun xs H Q => ∃ z, xs = [.str z] ∧ z.length ≤ sizeLine ∧ Q (.int z.length) H) := by
 intro pins s σ H xs us Q I r h
 obtain ⟨z, rfl, hz, q⟩ := h
 obtain ⟨u, rfl, t, rfl⟩ := vals1 r
 have hn := line63
 exact len_str (by omega) ⟨.int z.length, H, I.tok _, ⟨_, rfl⟩, q⟩
theorem CallR.or {f : Value} {r r' : List V → Hp → VK → Prop} (h : CallR X f r) (h' : CallR X f r') : CallR X f (fun xs H Q => r xs H Q ∨ r' xs H Q) := by
 intro pins s σ H xs us Q I rs q
 rcases q with q | q
 ·exact h pins s σ H xs us Q I rs q
 ·exact h' pins s σ H xs us Q I rs q
noncomputable def tyV (K : PySem.W.Frag) (T : String) (x : V) (H : Hp) : Prop := match x with
 | .str _ => T = "str"
 | .int _ => T = "int"
 | .ref p => (T = "list" ∧ ∃ xs, SqL K H p xs) ∨ (T = "tuple" ∧ ∃ o, K.lookup p = some o ∧ o.cls = .type "tuple" ∧ o.dict = none) ∨
   (T = "dict" ∧ ((∃ kvs, H p = some (.dK kvs)) ∨ ∃ kvs, H p = some (.dT kvs))) ∨ (T = "set" ∧ ∃ S n, H p = some (.set S n))
 | _ => False
theorem tyV_is {pins : List (Addr × Obj)} {σ : St} {H : Hp} {s : Shared} {T : String} {x : V} {v : Value} (I : Inv X pins σ H s) (r : RelV x v) (ty : tyV X.K T x H) :
  s.TypeIs v T ∧ ∀ a, v = .ref a → ∃ ob, s.heap.get? a = some ob ∧ ob.dict = none := by
 cases x with
 | str z =>
  obtain ⟨t, rfl⟩ := r
  cases (show T = "str" from ty)
  exact ⟨typeIs_str s z t, fun _ e => nomatch e⟩
 | int i =>
  obtain ⟨t, rfl⟩ := r
  cases (show T = "int" from ty)
  exact ⟨typeIs_int s i t, fun _ e => nomatch e⟩
 | ref p =>
  cases r
  rcases ty with ⟨rfl, xs, hq⟩ | ⟨rfl, o, hk, hc, hd⟩ | ⟨rfl, hk⟩ | ⟨rfl, S, n, hk⟩
  ·obtain ⟨its, _, pl, _⟩ := I.list hq
   refine ⟨pl.isList.typeIs, fun a e => ?_⟩
   cases e
   obtain ⟨o, n, e, c, hd, _⟩ := pl
   exact ⟨o, e, hd⟩
  ·refine ⟨⟨o, I.kIn p o hk, hc⟩, fun a e => ?_⟩
   cases e
   exact ⟨o, I.kIn _ o hk, hd⟩
  ·have z : ∃ o, s.heap.get? p = some o ∧ o.ExactDict := by
    rcases hk with ⟨kvs, hk⟩ | ⟨kvs, hk⟩
    ·obtain ⟨_, _, _, _, o, _, _, e, ex, _⟩ := I.hok p _ hk
     exact ⟨o, e, ex⟩
    ·obtain ⟨_, _, _, _, o, _, _, e, ex, _⟩ := I.hok p _ hk
     exact ⟨o, e, ex⟩
   obtain ⟨o, e, ex⟩ := z
   refine ⟨⟨o, e, ex.1⟩, fun a e2 => ?_⟩
   cases e2
   exact ⟨o, e, ex.2.1⟩
  ·obtain ⟨o, _, _, _, e, ex, _⟩ := I.hok p _ hk
   refine ⟨⟨o, e, ex.1⟩, fun a e2 => ?_⟩
   cases e2
   exact ⟨o, e, ex.2.1⟩
 | _ => exact False.elim ty
noncomputable def tBM0 (K : PySem.W.Frag) (T : String) (r : V → List V → Hp → VK → Prop) (to : TE) : TE := fun σ H Q => to σ H fun x H1 => tyV K T x H1 ∧ r x [] H1 Q
noncomputable def tBM (K : PySem.W.Frag) (T : String) (r : V → List V → Hp → VK → Prop) (to : TE) (t : TA) : TE := fun σ H Q => to σ H fun x H1 => tyV K T x H1 ∧ t σ H1 fun xs H2 => r x xs H2 Q
variable {o e : Expr} {es : List Expr} {to : TE} {t : TA} {name : Str} {apos cpos : Pos} {T id : String} {r : V → List V → Hp → VK → Prop}
theorem pe_bm0 (pa : PlainAttrs T) (slot : Slot T name id) (hty : typeOf (.builtin id) = pure (.type "method_descriptor")) (hm : MtR X id r) (ho : PE X o to)
  (hbase : attributeBase o name X.env (eval o X.env) = eval o X.env := by rfl) (hline : (apos.endLine == cpos.line) = true := by rfl) : PE X (.Call (.Attribute o name apos) [] [] cpos) (tBM0 X.K T r to) := by
 intro pins s σ H Q I h
 refine wpAny_Call_method0_late hbase hline (thn (ho pins s σ H _ I h) fun v s1 ⟨x, H1, I1, r1, ty, q1⟩ => ?_)
 obtain ⟨h1, h2⟩ := tyV_is I1 r1 ty
 exact ⟨T, id, pa, slot, hty, h1, h2, Calls.callWith_builtin rfl (PySem.evalArgs_none (hm pins s1 σ H1 x [] v [] Q I1 r1 .nil q1))⟩
theorem pe_bm (pa : PlainAttrs T) (slot : Slot T name id) (hty : typeOf (.builtin id) = pure (.type "method_descriptor")) (hm : MtR X id r) (ho : PE X o to) (ha : PA X (e :: es) t)
  (hbase : attributeBase o name X.env (eval o X.env) = eval o X.env := by rfl)
  (hfew : ((backTo cpos (starEach (e :: es) X.env)).all (fun x => !x.1) && (backToKw cpos (keywordEach [] X.env)).all (fun x => x.1.isSome)
   && decide ((e :: es).length + ([] : List Keyword).length + (if ([] : List Keyword).isEmpty then 0 else 1) < 30)) = true := by rfl)
  (hline : (apos.endLine == cpos.line) = true := by rfl) (hs : starEach (e :: es) X.env = (false, eval e X.env) :: starEach es X.env := by rfl) (hplain : (backTo cpos (starEach es X.env)).any (·.1) = false := by rfl) :
  PE X (.Call (.Attribute o name apos) (e :: es) [] cpos) (tBM X.K T r to t) := by
 intro pins s σ H Q I h
 refine wpAny_Call_method_late hbase hfew hline rfl (thn (ho pins s σ H _ I h) fun v s1 ⟨x, H1, I1, r1, ty, q1⟩ => ?_)
 obtain ⟨h1, h2⟩ := tyV_is I1 r1 ty
 refine ⟨T, id, pa, slot, hty, h1, h2, ?_⟩
 have hA := ha cpos pins s1 σ H1 _ I1 q1
 rw [hs] at hA ⊢
 refine Calls.callWith_builtin (by show (false || (backTo cpos (starEach es X.env)).any (·.1)) = false; rw [hplain] <;> rfl) (Calls.evalArgs_plain ?_)
 exact thn hA fun us s2 ⟨vs, H2, I2, r2, q2⟩ => hm pins s2 σ H2 x vs v us Q I2 r1 r2 q2
end
end L2
namespace L2
open PySem PySem.Spec PyProof.Rows
noncomputable def MtM (X : Cx) (id : String) (r : V → List V → Hp → VK → Prop) : Prop :=
 ∀ (pins : List (Addr × Obj)) (s : Shared) (σ : St) (H : Hp) (x : V) (xs : List V) (v : Value) (us : List Value) (Q : VK), Inv X pins σ H s → RelV x v → Vals xs us → r x xs H Q →
  wpAny (model X.prog X.w) X.A (call (.builtin id) (v :: us)) (EP X pins σ Q) X.xe s
theorem Vals.one : ∀ {x : V} {us : List Value}, Vals [x] us → ∃ u, us = [u] ∧ RelV x u
 | _, _, .cons r .nil => ⟨_, rfl, r⟩
theorem Vals.two : ∀ {x y : V} {us : List Value}, Vals [x, y] us → ∃ u v, us = [u, v] ∧ RelV x u ∧ RelV y v
 | _, _, _, .cons r (.cons q .nil) => ⟨_, _, rfl, r, q⟩
theorem Vals.zero : ∀ {us : List Value}, Vals [] us → us = []
 | _, .nil => rfl
theorem Vals.dropLast {xs : List V} {us : List Value} (h : Vals xs us) : Vals xs.dropLast us.dropLast := by
 induction h with
 | nil => exact .nil
 | cons r t ih =>
  cases t with
  | nil => exact .nil
  | cons q t' => exact .cons r ih
theorem Vals.eraseIdx : ∀ {xs : List V} {us : List Value} (i : Nat), Vals xs us → Vals (xs.eraseIdx i) (us.eraseIdx i)
 | _, _, _, .nil => .nil
 | _, _, 0, .cons _ t => t
 | _, _, i + 1, .cons r t => .cons r (Vals.eraseIdx i t)
theorem Vals.rep {xs : List V} {us : List Value} (h : Vals xs us) : ∀ k : Nat, Vals (List.replicate k xs).flatten (List.replicate k us).flatten
 | 0 => .nil
 | k + 1 => by
  rw [List.replicate_succ, List.replicate_succ, List.flatten_cons, List.flatten_cons]
  exact Vals.append h (Vals.rep h k)
theorem erase_last {α : Type} (l : List α) : l.eraseIdx (l.length - 1) = l.dropLast := by
 induction l with
 | nil => rfl
 | cons a r ih =>
  cases r with
  | nil => rfl
  | cons b r =>
   have e : (a :: b :: r).length - 1 = ((b :: r).length - 1) + 1 := by
    have h1 : (a :: b :: r).length = r.length + 2 := rfl
    have h2 : (b :: r).length = r.length + 1 := rfl
    omega
   rw [e, List.eraseIdx_cons_succ, ih]
   all_goals rfl
theorem foldl_rep (its : List Value) : ∀ (k : Nat) (acc : List Value),
  List.foldl (fun x1 x2 => x1 ++ x2) acc.toArray (List.replicate k its.toArray) = (acc ++ (List.replicate k its).flatten).toArray
 | 0, acc => by simp
 | k + 1, acc => by
  have e : acc.toArray ++ its.toArray = (acc ++ its).toArray := by simp
  have e2 : (acc ++ its) ++ (List.replicate k its).flatten = acc ++ (List.replicate (k + 1) its).flatten := by
   rw [List.replicate_succ, List.flatten_cons, List.append_assoc]
  rw [← e2, ← foldl_rep its k (acc ++ its), ← e, List.replicate_succ, List.foldl_cons]
section
variable {X : Cx} {pins : List (Addr × Obj)} {σ : St} {H : Hp} {s : Shared} {l b : Addr} {xs ys zs : List V}
theorem Inv.lset {its its' : List Value} {n : Nat} {f : Array Value → Array Value} {t' : Nat} (I : Inv X pins σ H s) (hH : H l = some (.lst xs))
  (e : s.heap.get? l = some { cls := .type "list", data := .seq its.toArray n }) (hf : f its.toArray = its'.toArray) (hv : Vals ys its') (hz : ys.length ≤ sizeLine) :
  Inv X pins σ (upd H l (.lst ys)) { s with heap := s.heap.update l (Obj.mapSeq f), toks := t' } := by
 have q := PySem.IsL.update e f
 rw [hf] at q
 refine I.write (x := l) (e := l) (by rw [hH]; exact trivial) (.inl rfl) (fun b' u hb hu => (Heap.get?_update_other s.heap (Obj.mapSeq f) (Ne.symm hb)).trans hu) ⟨_, q⟩ ?_
 exact ⟨hz, its', _, hv, q⟩
theorem Inv.lnew {its : List Value} {t' : Nat} (I : Inv X pins σ H s) (hv : Vals ys its) (hz : ys.length ≤ sizeLine) :
  Inv X pins σ (upd H s.heap.objs.size (.lst ys)) { s with heap := s.heap.push { cls := .type "list", data := .seq its.toArray }, toks := t' } :=
 I.laid (fun _ _ q => Heap.get?_push_of_some _ q) (Nat.le_refl _) ⟨hz, its, 0, hv, Heap.get?_push_size _ rfl⟩
theorem Inv.fresh (I : Inv X pins σ H s) : H s.heap.objs.size = none := I.hok.fresh (Nat.le_refl _)
theorem Inv.lstM (I : Inv X pins σ H s) (hH : H l = some (.lst xs)) : xs.length ≤ sizeLine ∧ ∃ (its : List Value) (n : Nat), Vals xs its ∧ xs.length = its.length ∧ s.heap.get? l = some { cls := .type "list", data := .seq its.toArray n } := by
 obtain ⟨z, its, n, r, e⟩ := I.hok l _ hH
 exact ⟨z, its, n, r, r.length, e⟩
theorem notLongL {n : Nat} (h : n ≤ sizeLine) : Builtin.List.listTooLong n = false := by
 unfold Builtin.List.listTooLong
 exact decide_eq_false (by omega)
end
section
variable {X : Cx}
noncomputable def rAppend : V → List V → Hp → VK → Prop := fun x vs H Q => ∃ l xs y, x = .ref l ∧ vs = [y] ∧ H l = some (.lst xs) ∧ xs.length < sizeLine ∧ Q .non (upd H l (.lst (xs ++ [y])))
theorem mt_append : MtM X "list.append" rAppend := by
 intro pins s σ H x vs v us Q I rx rv h
 obtain ⟨l, xs, y, rfl, rfl, hH, hz, q⟩ := h
 cases rx
 obtain ⟨u, rfl, ru⟩ := rv.one
 obtain ⟨z, its, n, r, hl, e⟩ := I.lstM hH
 refine call_meets F.slot_list_append ⟨_, e, rfl⟩ F.entry_list_append (F.args_list_append_2 _ _) (PySem.list_append l its.toArray n u (by rw [List.size_toArray]; omega)) ⟨e, ?_⟩
 refine ⟨.non, _, I.lset (its' := its ++ [u]) hH e (by simp) (r.append (.cons ru .nil)) ?_, rfl, q⟩
 rw [List.length_append, List.length_singleton]
 omega
noncomputable def rExtend : V → List V → Hp → VK → Prop := fun x vs H Q => ∃ l b xs zs, x = .ref l ∧ vs = [.ref b] ∧ H l = some (.lst xs) ∧ H b = some (.lst zs) ∧ xs.length + zs.length ≤ sizeLine ∧ Q .non (upd H l (.lst (xs ++ zs)))
theorem mt_extend : MtM X "list.extend" rExtend := by
 intro pins s σ H x vs v us Q I rx rv h
 obtain ⟨l, b, xs, zs, rfl, rfl, hH, hB, hz, q⟩ := h
 cases rx
 obtain ⟨u, rfl, ru⟩ := rv.one
 cases ru
 obtain ⟨z, its, n, r, hl, e⟩ := I.lstM hH
 obtain ⟨z2, its2, n2, r2, hl2, e2⟩ := I.lstM hB
 have hsz : its.toArray.size + its2.toArray.size ≤ sizeLine := by rw [List.size_toArray, List.size_toArray]; omega
 have hlong : ¬ (!its.toArray.isEmpty && Builtin.List.listTooLong (its.toArray.size + its2.toArray.size)) = true := by
  rw [notLongL hsz, Bool.and_false]
  exact Bool.false_ne_true
 refine call_meets F.slot_list_extend ⟨_, e, rfl⟩ F.entry_list_extend (F.args_list_extend_2 _ _)
  (AutoSeq1.list_extend_list_list_0 l its.toArray n b its2.toArray n2 hlong (by rw [List.size_toArray]; omega) (by omega)) ⟨e, e2, ?_⟩
 refine ⟨.non, _, I.lset (its' := its ++ its2) hH e (by simp) (r.append r2) ?_, rfl, q⟩
 rw [List.length_append]
 omega
noncomputable def rPop : V → List V → Hp → VK → Prop := fun x vs H Q => ∃ l xs y, x = .ref l ∧ vs = [] ∧ H l = some (.lst xs) ∧ xs[xs.length - 1]? = some y ∧ Q y (upd H l (.lst xs.dropLast))
theorem mt_pop : MtM X "list.pop" rPop := by
 intro pins s σ H x vs v us Q I rx rv h
 obtain ⟨l, xs, y, rfl, rfl, hH, hy, q⟩ := h
 cases rx
 have hus := rv.zero
 subst hus
 obtain ⟨z, its, n, r, hl, e⟩ := I.lstM hH
 obtain ⟨u, hu, ru⟩ := r.get hy
 have hy' : its.toArray[its.toArray.size - 1]? = some u := by
  show its.toArray[its.length - 1]? = some u
  rw [← Array.getElem?_toList, ← hl]
  exact hu
 refine call_meets F.slot_list_pop ⟨_, e, rfl⟩ F.entry_list_pop (F.args_list_pop_1 _) (MeetsSeq.list_pop_last l its.toArray n u hy' (by rw [List.size_toArray]; omega)) ⟨e, ?_⟩
 refine ⟨y, _, I.lset (its' := its.dropLast) hH e ?_ r.dropLast ?_, ru, q⟩
 ·show its.toArray.eraseIdxIfInBounds (its.toArray.size - 1) = its.dropLast.toArray
  rw [List.size_toArray, List.eraseIdxIfInBounds_toArray, erase_last]
 ·rw [List.length_dropLast]
  omega
noncomputable def rClear : V → List V → Hp → VK → Prop := fun x vs H Q => ∃ l xs, x = .ref l ∧ vs = [] ∧ H l = some (.lst xs) ∧ Q .non (upd H l (.lst []))
theorem mt_clear : MtM X "list.clear" rClear := by
 intro pins s σ H x vs v us Q I rx rv h
 obtain ⟨l, xs, rfl, rfl, hH, q⟩ := h
 cases rx
 have hus := rv.zero
 subst hus
 obtain ⟨z, its, n, r, hl, e⟩ := I.lstM hH
 refine call_meets F.slot_list_clear ⟨_, e, rfl⟩ F.entry_list_clear (F.args_list_clear_1 _) (AutoSeq1.list_clear_list_0 l its.toArray n (by rw [List.size_toArray]; omega)) ⟨e, ?_⟩
 exact ⟨.non, _, I.lset (its' := []) (ys := []) hH e rfl .nil (Nat.zero_le _), rfl, q⟩
noncomputable def rCat : R2 := fun x y H Q => ∃ l b xs zs, x = .ref l ∧ y = .ref b ∧ H l = some (.lst xs) ∧ H b = some (.lst zs) ∧ xs.length + zs.length ≤ sizeLine ∧ ∀ p, H p = none → Q (.ref p) (upd H p (.lst (xs ++ zs)))
theorem op_cat : OpR X (binaryOp .Add) rCat := by
 intro pins s σ H x y v u Q I rx ry h
 obtain ⟨l, b, xs, zs, rfl, rfl, hH, hB, hz, q⟩ := h
 cases rx
 cases ry
 obtain ⟨z, its, n, r, hl, e⟩ := I.lstM hH
 obtain ⟨z2, its2, n2, r2, hl2, e2⟩ := I.lstM hB
 refine PySem.P.add_list e e2 ?_ (by rw [List.size_toArray, List.size_toArray]; omega)
 have ea : its.toArray ++ its2.toArray = (its ++ its2).toArray := by simp
 rw [ea]
 exact ⟨.ref _, _, I.lnew (t' := s.toks) (r.append r2) (by rw [List.length_append]; omega), rfl, q _ I.fresh⟩
noncomputable def rRep : R2 := fun x y H Q => ∃ l k xs, x = .ref l ∧ y = .int k ∧ H l = some (.lst xs) ∧ -(2 ^ 63) ≤ k ∧ k < 2 ^ 63 ∧ xs.length * k.toNat ≤ sizeLine ∧
 ∀ p, H p = none → Q (.ref p) (upd H p (.lst (List.replicate k.toNat xs).flatten))
theorem len_rep {α : Type} (xs : List α) (k : Nat) : (List.replicate k xs).flatten.length = k * xs.length := by
 induction k with
 | zero => simp
 | succ k ih => rw [List.replicate_succ, List.flatten_cons, List.length_append, ih, Nat.succ_mul, Nat.add_comm]
theorem op_rep : OpR X (binaryOp .Mult) rRep := by
 intro pins s σ H x y v u Q I rx ry h
 obtain ⟨l, k, xs, rfl, rfl, hH, h1, h2, hz, q⟩ := h
 cases rx
 obtain ⟨t, rfl⟩ := ry
 obtain ⟨z, its, n, r, hl, e⟩ := I.lstM hH
 have hlen : its.toArray.size * k.toNat ≤ sizeLine := by rw [List.size_toArray, ← hl]; exact hz
 have hcap : ¬ its.toArray.size * k.toNat > (2 ^ 63 - 1) / 8 := by
  have : (sizeLine : Nat) ≤ (2 ^ 63 - 1) / 8 := by decide
  omega
 have hfit : ¬ (!Builtin.List.listFitsIndex k) = true := by
  rw [fitsIndex_both h1 h2]
  exact Bool.false_ne_true
 have hlong : ¬ Builtin.List.listTooLong (its.toArray.size * k.toNat) = true := by
  rw [notLongL hlen]
  exact Bool.false_ne_true
 have hnew : List.foldl (fun x1 x2 => x1 ++ x2) #[] (List.replicate (if its.toArray.isEmpty = true then 0 else k.toNat) its.toArray) = (List.replicate k.toNat its).flatten.toArray := by
  have f0 : ∀ m : Nat, List.foldl (fun x1 x2 => x1 ++ x2) #[] (List.replicate m its.toArray) = (List.replicate m its).flatten.toArray := fun m => by
   have := foldl_rep its m []
   rw [List.nil_append] at this
   exact this
  rw [f0]
  cases its with
  | nil => simp
  | cons a r' => rw [if_neg (by simp)]
 refine wpAny_binaryOp_repeat_ref (T := "list") (U := "int") (by decide) ⟨_, e, rfl⟩ (fun s' => typeIs_int s' k t) noFill_list_mul F.fills_int_mul F.slot_int_rmul repeat_list F.slot_int_index.lookup
  (call_meets F.slot_int_rmul (typeIs_int s k t) F.entry_int_rmul (F.args_int_rmul_2 _ _) (int___rmul___int_list k t l its.toArray n)
   ⟨e, rfl, ⟨_, e, rfl⟩, call_meets F.slot_list_mul ⟨_, e, rfl⟩ F.entry_list_mul (F.args_list_mul_2 _ _) (AutoListH.list___mul___list_int_3 l its.toArray n k t hfit hcap hlong) ⟨e, ?_⟩⟩)
 rw [hnew]
 exact ⟨.ref _, _, I.lnew (t' := s.toks) (r.rep k.toNat) (by rw [len_rep, Nat.mul_comm]; exact hz), rfl, q _ I.fresh⟩
end
section
variable {prog : Program} {w : World} {A : Around} {E : Value → Shared → Prop} {s : Shared}
end
section
variable {X : Cx}
end
end L2
namespace Att
open PySem PySem.W PySem.Calls PyProof.Rows
theorem ints_of_wellAll {P : Params} {h : Heap} : ∀ (ns : List Int) (vs : List Value), WellAll P h vs (ns.map WData.int) → IntsAre vs ns := by
 intro ns
 induction ns with
 | nil =>
  intro vs w
  rw [List.map_nil] at w
  cases w
  exact .nil
 | cons n ns ih =>
  intro vs w
  rw [List.map_cons] at w
  cases w with
  | cons a b =>
   cases a
   exact .cons _ _ (ih _ b)
theorem script_of {l : OpenLaw} {n : Nat} (hn : l.most = some n) {P : Params} {h : Heap} {args : List WData} {vals : List Value}
  (hpre : l.row.toRowW.claim.pre args = true) (hwl : WellAll P h vals args) :
  ∃ a vs ns, vals = [Value.ref a] ∧ args = [WData.list (ns.map WData.int)] ∧ h.get? a = some { cls := .type "list", data := .seq vs.toArray } ∧ IntsAre vs ns ∧ ns.length ≤ n := by
 have hsh : WShape.hasAll [] args [.list .int] = true := (pre_splitW hpre).1
 have hc : l.pre.holds [] { args := args } = true := (pre_splitW hpre).2
 obtain ⟨d, r, rfl, h1, h2⟩ := hasAllW_cons hsh
 obtain rfl := hasAllW_nil h2
 obtain ⟨xs, rfl, h3⟩ := hasW_list h1
 obtain ⟨ns, rfl⟩ := items_int h3
 have hlen : ns.length ≤ n := by
  unfold OpenLaw.pre at hc
  have h4 : (WTm.not (.lt (.lit (.int (n : Int))) (.len (.arg 0)))).holds [] { args := [.list (ns.map .int)] } = true := by
   have h4 := (holds_andW hc).1
   rw [hn] at h4
   exact h4
  have h5 := condW_of h4 (w_not (w_lt w_lit (w_len_list (w_arg rfl))))
  rw [List.length_map] at h5
  refine Nat.le_of_not_lt fun q => ?_
  have q' : (n : Int) < ((ns.length : Nat) : Int) := by omega
  first
   | (rw [decide_eq_true q'] at h5; exact absurd h5 (by decide))
   | (simp at h5; omega)
 cases hwl with
 | cons w1 w2 =>
  cases w2
  cases w1 with
  | list ho hall => exact ⟨_, _, ns, rfl, rfl, ho, ints_of_wellAll ns _ hall, hlen⟩
theorem post_true (l : OpenLaw) (args : List WData) : l.row.toRowW.claim.post args (.bool true) args = true :=
 postW_of (r := l.row.toRowW) (X := (true == true))
  (show WShape.has [] (.bool true) .bool = true by first | rfl | decide | simp [WShape.has, WShape.arms, WShape.armsAll])
  (show (WTm.eq .res (.lit (.bool true))).value [] { args := args, res := some (.bool true), after := args } = some (.bool (true == true)) from w_eq_bool (w_res rfl) w_lit) rfl
theorem attach_call {l : OpenLaw} {n : Nat} {q : Program} {loose : List Str} {XP : (Str → Option Value) → Heap → Prop} {YP : World → Heap → Prop} {d : DefRec}
  (hn : l.most = some n) (hdf : d.params.defaults = [])
  (call : ∀ (w : World) (s₀ s₁ : Shared) (mg mb : Str → Option Value) (fa : Addr) (o : Obj) (pm cd doc : Value) (a : Addr) (vs : List Value) (ns : List Int),
   Ground q loose [] XP w s₀ mg mb s₁.heap → YP w s₁.heap →
   s₁.heap.get? fa = some o → o.data = .func (docDef d.name d.params d.body d.scope pm cd doc) → s₁.heap.CodeRec cd d.name → mg d.name = some (.ref fa) →
   s₁.heap.get? a = some { cls := .type "list", data := .seq vs.toArray } → IntsAre vs ns → ns.length ≤ n → s₁.gens = #[] →
   codeAny (model l.prog w) callerA (.call (.ref fa) ⟨[.ref a], []⟩) (fun r s' => r = .ok (.ret (.bool true)) ∧ OldK s₁.heap s'.heap ∧ s'.os = s₁.os ∧ AllBare s'.gens) s₁) :
  WalkO q loose XP YP l.row.toRowW d [] (fun f vs => PySem.call f vs) := by
 intro w s₀ s₁ mg mb G Y fa o pm cd doc dV kV ho hd hcd hD hmg hg args vals as hpre hlay hrd hwl hlo
 obtain rfl : dV = .none := Dflts.none hD hdf
 obtain rfl : kV = .none := Dflts.noKw hD
 obtain ⟨a, vs, ns, rfl, rfl, hobj, hints, hlen⟩ := script_of hn hpre hwl
 refine enter_call (codeAny_mono (call w s₀ s₁ mg mb fa o pm cd doc a vs ns G Y ho (fd_plain hd) hcd hmg hobj hints hlen hg) fun r s' hq => ?_)
 obtain ⟨rfl, h2, h3, h4⟩ := hq
 exact ⟨.inl ⟨.bool true, .bool true, [], rfl, fun _ => rfl, .bool true, post_true l _, fun _ => ⟨List.Pairwise.nil, fun _ hm => (nomatch hm)⟩⟩, h2, h3, h4⟩
section
variable {prog : Program} {w : World} {A : Around} {E : Value → Shared → Prop} {s : Shared} {K : Frag}
end
end Att
namespace L2
open PySem PySem.Spec PyProof.Rows
theorem vals_ints : ∀ {vs : List Value} {ns : List Int}, IntsAre vs ns → Vals (ns.map V.int) vs
 | _, _, .nil => .nil
 | _, _, .cons n t h => .cons ⟨t, rfl⟩ (vals_ints h)
noncomputable def Only (H : Hp) : Prop := ∀ b, H b = none ∨ ∃ o xs, H b = some (.frz o (.lst xs))
theorem law_call {P : Program} {w : World} {K : PySem.W.Frag} {mg mb : Str → Option Value} {CX : CXT} {k : Nat} {fa a : Addr} {fd : FuncData} {x : Str} {sp : Sp} {s₁ : Shared} {vs : List Value} {ns : List Int}
  (KX : K.In s₁.heap) (hns : s₁.heap.Ns mainGlobals mg) (hb : s₁.heap.Ns builtinsNs mb) (hbb : ∀ x : Str, x ≠ "__name__" → mb x = bootBuiltins x) (hlim : s₁.heap.NoLimit) (hg : s₁.gens = #[])
  (ha : s₁.heap.get? a = some { cls := .type "list", data := .seq vs.toArray }) (hi : IntsAre vs ns) (hl : ns.length ≤ sizeLine) (hr : Room k callerA)
  (F : ∀ base : Heap, K.In base → base.Ns mainGlobals mg → FnOk P w K mg base CX k fa fd [x] sp) (hbind : ∀ (s : Shared) (u : Value), BindsTo s fd ⟨[u], []⟩ [(x, u)])
  (hsp : ∀ H : Hp, Only H → SqL K H a (ns.map V.int) → sp [.ref a] H (fun v _ => v = .bl true) fun _ _ _ => False)
  (hCX : ∀ H e s', CX [] H s₁ (fun _ _ _ => False) e s' → False) :
  codeAny (model P w) callerA (.call (.ref fa) ⟨[.ref a], []⟩) (fun r s' => r = .ok (.ret (.bool true)) ∧ OldK s₁.heap s'.heap ∧ s'.os = s₁.os ∧ AllBare s'.gens) s₁ := by
 have rv := vals_ints hi
 have lenV := hi.length
 -- from an abstract heap in which nothing but the script may be tracked
 have core : ∀ H : Hp, Only H → SqL K H a (ns.map V.int) → HOk P w H s₁.heap → (∀ b, H b ≠ none → b = a) → (H a ≠ none → K.lookup a = none) →
   codeAny (model P w) callerA (.call (.ref fa) ⟨[.ref a], []⟩) (fun r s' => r = .ok (.ret (.bool true)) ∧ OldK s₁.heap s'.heap ∧ s'.os = s₁.os ∧ AllBare s'.gens) s₁ := by
  intro H hO hS hok hA hK
  have base_of : ∀ {b : Addr} {o : Obj}, s₁.heap.get? b = some o → H b = none → (hidT s₁.heap H).get? b = some o := fun e n => hidT_get e n
  have noA : ∀ {b : Addr} {o : Obj} {es : Array DictEntry} {ep : Nat}, s₁.heap.get? b = some o → o.data = .dict es ep → H b = none := fun {b o es ep} e d => by
   cases q : H b with
   | none => rfl
   | some u =>
    have e' : b = a := hA b (by rw [q]; simp)
    subst e'
    rw [ha] at e; cases e
    have d' : Data.seq vs.toArray _ = Data.dict es ep := d
    cases d'
  have nsK : ∀ {b : Addr} {m : Str → Option Value}, s₁.heap.Ns b m → (hidT s₁.heap H).Ns b m := fun {b m} ⟨o, es, ep, e, d, r⟩ => ⟨o, es, ep, base_of e (noA e d), d, r⟩
  have hKb : K.In (hidT s₁.heap H) := fun b o e => base_of (KX b o e) (by
   cases q : H b with
   | none => rfl
   | some u =>
    have e' : b = a := hA b (by rw [q]; simp)
    subst e'
    rw [hK (by rw [q]; simp)] at e; cases e)
  have hM : Mod K mg (hidT s₁.heap H) := ⟨hKb, nsK hns, ⟨mb, nsK hb, hbb⟩, let ⟨mc, h1, h2⟩ := hlim; ⟨mc, nsK h1, h2⟩⟩
  have e0 : Env0 P w K mg (hidT s₁.heap H) callerA [] s₁ H := ⟨rfl, hM, fun b o e => of_hidT e, Nat.le_of_eq (hidT_size _ _), trivial, fun b hb => absurd (show b ∈ ([] : List Addr) from hb) (by simp), hok, .of_eq hg⟩
  refine codeAny_mono ((F _ hKb (nsK hns)).run callerA [] s₁ H ⟨[.ref a], []⟩ [.ref a] [.ref a] _ _ hr e0 (hbind s₁ (.ref a)) (.cons rfl .nil) (hsp H hO hS)) fun r s' h => ?_
  cases r with
  | error e => exact (hCX H e s' h).elim
  | ok fl =>
   cases fl with
   | next => exact False.elim h
   | brk => exact False.elim h
   | cont => exact False.elim h
   | ret u =>
    obtain ⟨v, H', os, bare, un, hok', r', q⟩ := h
    have q' : v = .bl true := q
    subst q'
    obtain rfl : u = Value.bool true := r'
    refine ⟨rfl, OldK.of_keep fun b o e => ?_, os, bare⟩
    cases q : H b with
    | none => exact un.keep b o e q (by intro z; exact absurd (show b ∈ ([] : List Addr) from z) (by simp)) (by simp)
    | some u =>
     rcases hO b with z | ⟨ob, xs, z⟩
     ·rw [q] at z; cases z
     ·have z2 := un.frzs b ob _ z
      obtain ⟨e1, _⟩ := hok b _ z
      obtain ⟨e2, _⟩ := hok' b _ z2
      rw [e] at e1; cases e1
      exact e2
 cases hk : K.lookup a with
 | some o =>
  -- the script is one of the module's own objects
  have e := KX a o hk
  rw [ha] at e
  cases e
  refine core (fun _ => none) (fun _ => .inl rfl) (.inr ⟨_, vs.toArray, _, hk, rfl, rfl, rfl, by rw [List.size_toArray, lenV]; exact hl, by simpa using rv⟩) (fun b u z => by have z' : (none : Option HO) = some u := z; cases z') (fun b z => absurd rfl z) fun z => absurd rfl z
 | none =>
  refine core (fun b => if b = a then some (.frz { cls := .type "list", data := .seq vs.toArray } (.lst (ns.map V.int))) else none) (fun b => ?_) (.inl (.inr ⟨{ cls := .type "list", data := .seq vs.toArray }, if_pos rfl⟩)) (fun b u z => ?_) (fun b z => ?_) fun _ => hk
  ·by_cases hb : b = a
   ·exact .inr ⟨_, _, if_pos hb⟩
   ·exact .inl (if_neg hb)
  ·by_cases hb : b = a
   ·have z' := (if_pos hb).symm.trans z
    cases z'
    subst hb
    exact ⟨ha, by rw [List.length_map]; exact hl, vs, _, rv, ha⟩
   ·have z' := (if_neg hb).symm.trans z
    cases z'
  ·by_cases hb : b = a
   ·exact hb
   ·exact absurd (if_neg hb) z
end L2
namespace L2
open PySem PySem.Spec PyProof.Rows
noncomputable abbrev KOf {K : PySem.W.Frag} {h : Heap} (_ : K.In h) : PySem.W.Frag := K
theorem walk_of {l : PySem.W.OpenLaw} {n k : Nat} {q : Program} {loose : List Str} {XP : (Str → Option Value) → Heap → Prop} {YP : World → Heap → Prop} {d : DefRec} {K : Params → PySem.W.Frag} {CX : World → CXT} {sp : World → Sp} {x : Str}
  (hn : l.most = some n) (hn2 : n ≤ sizeLine) (hdf : d.params.defaults = []) (hr : Room k callerA)
  (hY : ∀ (w : World) (h : Heap), YP w h → (K w.params).In h)
  (F : ∀ (w : World) (mg : Str → Option Value) (fa : Addr) (h : Heap), (K w.params).In h → h.Ns mainGlobals mg → mg d.name = some (.ref fa) →
   ∃ fd : FuncData, (∀ (s : Shared) (u : Value), BindsTo s fd ⟨[u], []⟩ [(x, u)]) ∧
    ∀ base : Heap, (K w.params).In base → base.Ns mainGlobals mg → FnOk l.prog w (K w.params) mg base (CX w) k fa fd [x] (sp w))
  (hsp : ∀ (w : World) (H : Hp) (a : Addr) (ns : List Int), ns.length ≤ n → Only H → SqL (K w.params) H a (ns.map V.int) → sp w [.ref a] H (fun v _ => v = .bl true) fun _ _ _ => False)
  (hCX : ∀ (w : World) (H : Hp) (s : Shared) (e : Value) (s' : Shared), CX w [] H s (fun _ _ _ => False) e s' → False) :
  PySem.W.WalkO q loose XP YP l.row.toRowW d [] (fun f vs => PySem.call f vs) := by
 refine Att.attach_call hn hdf fun w s₀ s₁ mg mb fa o pm cd doc a vs ns G Y ho hd hcd hmg hobj hints hlen hg => ?_
 have KX := hY w _ Y
 obtain ⟨fd, hb, hF⟩ := F w mg fa _ KX G.T.g hmg
 exact law_call KX G.T.g G.T.b G.T.builtins G.T.nolimit hg hobj hints (Nat.le_trans hlen hn2) hr hF hb (fun H hO hS => hsp w H a ns hlen hO hS) fun H e s' => hCX w H s₁ e s'
end L2
namespace L2
open PySem PySem.Spec PyProof.Rows
noncomputable def defArgs (s : Stmt) : Arguments := match s with
 | .FunctionDef _ a _ _ _ _ _ _ _ _ => a
 | _ => { posonlyargs := [], args := [], vararg := none, kwonlyargs := [], kw_defaults := [], kwarg := none, defaults := [] }
noncomputable def defBody (s : Stmt) : List Stmt := match s with
 | .FunctionDef _ _ b _ _ _ _ _ _ _ => b
 | _ => []
noncomputable def defScope (s : Stmt) : Scope := match s with
 | .FunctionDef _ _ _ _ _ _ sc _ _ _ => sc
 | _ => { kind := .function, names := [], isGenerator := false, isCoroutine := false }
noncomputable abbrev CX0 : CXT := fun _ _ _ _ _ _ => False
noncomputable abbrev E0 : XK := fun _ _ _ => False
theorem pass0 {X : Cx} : Passes CX0 X E0 := fun _ _ _ _ _ _ _ h => h.elim
structure Fun (K : PySem.W.Frag) (x qual : Str) (st : Stmt) (f : Addr) (fd : FuncData) : Prop where
 ex : ∃ (oc : Value) (od : Option Addr) (kV doc pm : Value) (an : Option Addr) (cdv ct : Value) (osl : Array (Option Value)),
  fd = PySem.W.fnOf x qual (defArgs st) (defBody st) (defScope st) .none kV doc pm an cdv ct ∧ K.lookup f = some ⟨oc, od, .func fd, osl⟩ ∧ PySem.W.codeIn K cdv qual = true
 kp : PySem.W.keepIn K (.ref f) = true
section
variable {P : Program} {w : World} {K : PySem.W.Frag} {mg : Str → Option Value} {base : Heap}
theorem Fun.ok {x qual : Str} {st : Stmt} {f : Addr} {fd : FuncData} {N ps : List Str} {k : Nat} {sp : Sp} (F : Fun K x qual st f fd) (S : FnScope N ps (defScope st)) (len : ∀ vs H Q E, sp vs H Q E → vs.length = ps.length)
  (hbody : ∀ (cdv : Value) (A : Around) (outer : List Env) (s : Shared) (H : Hp) (vs : List V) (Q : VK) (E : XK), Room k (A.deeper (envOfC qual (defScope st) s.heap.objs.size f cdv)) → sp vs H Q E →
   ∃ t, PSs (cxOf CX0 P w K mg base N qual (defScope st) f cdv A outer s H E).nox (defBody st) t ∧ t { nx := fun _ H' => Q .non H', rt := Q } (start N vs) H) : FnOk P w K mg base CX0 (k + 1) f fd ps sp := by
 obtain ⟨oc, od, kV, doc, pm, an, cdv, ct, osl, rfl, lk, hcd⟩ := F.ex
 refine fn_of lk hcd S len fun A outer s H vs Q E hr hsp => ?_
 obtain ⟨t, h, q⟩ := hbody cdv A outer s H vs Q E hr hsp
 exact ⟨t, h.nox, q⟩
theorem Fun.binds {x qual : Str} {st : Stmt} {f : Addr} {fd : FuncData} {ps : List Str} (F : Fun K x qual st f fd)
  (h : ∀ (kV doc pm : Value) (an : Option Addr) (cdv ct : Value) (us : List Value), us.length = ps.length → bindArgs (PySem.W.fnOf x qual (defArgs st) (defBody st) (defScope st) .none kV doc pm an cdv ct) ⟨us, []⟩ = pure (ps.zip us)) : Binds K fd ps [] := by
 obtain ⟨oc, od, kV, doc, pm, an, cdv, ct, osl, rfl, lk, hcd⟩ := F.ex
 exact .all (h kV doc pm an cdv ct)
theorem fun_mk {x qual : Str} {st : Stmt} {f : Addr} {oc : Value} {od an : Option Addr} {osl : Array (Option Value)} {kV doc pm cdv ct : Value} (l : K.lookup f = some ⟨oc, od, .func (PySem.W.fnOf x qual (defArgs st) (defBody st) (defScope st) .none kV doc pm an cdv ct), osl⟩)
  (c : PySem.W.codeIn K cdv qual = true) (k : PySem.W.keepIn K (.ref f) = true) : Fun K x qual st f (PySem.W.fnOf x qual (defArgs st) (defBody st) (defScope st) .none kV doc pm an cdv ct) := ⟨⟨oc, od, kV, doc, pm, an, cdv, ct, osl, rfl, l, c⟩, k⟩
end
theorem small1000 {n : Nat} (h : n ≤ 1000) : n < sizeLine := Nat.lt_of_le_of_lt h (by decide)
section
variable {X : Cx}
end
noncomputable def Same (H H' : Hp) : Prop := ∀ b o, H b = some o → H' b = some o
theorem Same.refl (H : Hp) : Same H H := fun _ _ h => h
theorem Same.trans {H H1 H2 : Hp} (a : Same H H1) (b : Same H1 H2) : Same H H2 := fun c o h => b c o (a c o h)
theorem Same.free {H H' : Hp} (e : Same H H') {l : Addr} (h : H' l = Option.none) : H l = Option.none := by
 cases q : H l with
 | none => rfl
 | some o =>
  rw [e l o q] at h
  cases h
theorem Same.seq {K : PySem.W.Frag} {H H' : Hp} {a : Addr} {xs : List V} (e : Same H H') (h : SqL K H a xs) : SqL K H' a xs := by
 rcases h with (h | ⟨o, h⟩) | h
 ·exact .inl (.inl (e _ _ h))
 ·exact .inl (.inr ⟨o, e _ _ h⟩)
 ·exact .inr h
end L2
set_option maxHeartbeats 4000000
namespace DD
open PySem L2
inductive D where
 | hole | cell | node (a : Addr) (vs : List V)
 | non | bl (b : Bool) | int (i : Int) | str (x : Str) | ty (n : String) | cls (a : Addr)
 | lst (own : Bool) (xs : List D)
 | tup (xs : List D)
 | obj (own : Bool) (C : Addr) (ks : List Str) (xs : List D)
 | dct (own : Bool) (ks : List Key) (xs : List D)
noncomputable def FL (K : PySem.W.Frag) (F : Addr → Prop) (H : Hp) (a : Addr) (vs : List V) : Prop := (F a ∧ Rd H a (.lst vs)) ∨ ∀ H', SqL K H' a vs
noncomputable def FT (K : PySem.W.Frag) (F : Addr → Prop) (H : Hp) (a : Addr) (vs : List V) (L : List Addr) : Prop := (F a ∧ H a = some (.tup vs)) ∨ ((∀ H', SqT K H' a vs) ∧ L = [])
mutual
noncomputable def Ow (K : PySem.W.Frag) (F : Addr → Prop) (H : Hp) : D → V → List Addr → Prop
 | .hole, _, L => L = []
 | .cell, v, L => ∃ a o, v = .ref a ∧ H a = some o ∧ L = [a]
 | .node a vs, v, L => v = .ref a ∧ H a = some (.lst vs) ∧ L = [a]
 | .non, v, L => v = .non ∧ L = []
 | .bl b, v, L => v = .bl b ∧ L = []
 | .int i, v, L => v = .int i ∧ L = []
 | .str x, v, L => v = .str x ∧ L = []
 | .ty x, v, L => v = .ty x ∧ L = []
 | .cls x, v, L => v = .ref x ∧ L = []
 | .lst true xs, v, L => ∃ a vs L', v = .ref a ∧ H a = some (.lst vs) ∧ OwL K F H xs vs L' ∧ L = a :: L'
 | .lst false xs, v, L => ∃ a vs, v = .ref a ∧ FL K F H a vs ∧ OwL K F H xs vs [] ∧ L = []
 | .tup xs, v, L => ∃ a vs, v = .ref a ∧ FT K F H a vs L ∧ OwL K F H xs vs L
 | .obj true C ks xs, v, L => ∃ a dx vs L', v = .ref a ∧ H a = some (.ins C dx (ks.zip vs)) ∧ ks.length = vs.length ∧ OwL K F H xs vs L' ∧ L = a :: L'
 | .obj false C ks xs, v, L => ∃ a dx vs, v = .ref a ∧ H a = some (.ins C dx (ks.zip vs)) ∧ F a ∧ ks.length = vs.length ∧ OwL K F H xs vs [] ∧ L = []
 | .dct true ks xs, v, L => ∃ a vs L', v = .ref a ∧ H a = some (.dK (ks.zip vs)) ∧ ks.length = vs.length ∧ OwL K F H xs vs L' ∧ L = a :: L'
 | .dct false ks xs, v, L => ∃ a vs, v = .ref a ∧ H a = some (.dK (ks.zip vs)) ∧ F a ∧ ks.length = vs.length ∧ OwL K F H xs vs [] ∧ L = []
noncomputable def OwL (K : PySem.W.Frag) (F : Addr → Prop) (H : Hp) : List D → List V → List Addr → Prop
 | [], vs, L => vs = [] ∧ L = []
 | x :: xs, vs, L => ∃ v ws L1 L2, vs = v :: ws ∧ Ow K F H x v L1 ∧ OwL K F H xs ws L2 ∧ L = L1 ++ L2
end
mutual
noncomputable def D.fz : D → D
 | .lst _ xs => .lst false (D.fzL xs)
 | .tup xs => .tup (D.fzL xs)
 | .obj _ C ks xs => .obj false C ks (D.fzL xs)
 | .dct _ ks xs => .dct false ks (D.fzL xs)
 | .cell => .hole
 | .node _ _ => .hole
 | d => d
noncomputable def D.fzL : List D → List D
 | [] => []
 | x :: xs => D.fz x :: D.fzL xs
end
section
variable {K : PySem.W.Frag} {F F' : Addr → Prop} {H H' : Hp}
mutual
theorem Ow.dom : ∀ {d : D} {v : V} {L : List Addr}, Ow K F H d v L → ∀ a ∈ L, ∃ o, H a = some o
 | .hole, _, _, h, a, ha => by simp only [Ow] at h; subst h; cases ha
 | .cell, _, _, h, a, ha => by simp only [Ow] at h; obtain ⟨b, o, rfl, e, rfl⟩ := h; rw [List.mem_singleton.mp ha]; exact ⟨o, e⟩
 | .node _ _, _, _, h, a, ha => by simp only [Ow] at h; obtain ⟨rfl, e, rfl⟩ := h; rw [List.mem_singleton.mp ha]; exact ⟨_, e⟩
 | .non, _, _, h, a, ha => by simp only [Ow] at h; rw [h.2] at ha; cases ha
 | .bl _, _, _, h, a, ha => by simp only [Ow] at h; rw [h.2] at ha; cases ha
 | .int _, _, _, h, a, ha => by simp only [Ow] at h; rw [h.2] at ha; cases ha
 | .str _, _, _, h, a, ha => by simp only [Ow] at h; rw [h.2] at ha; cases ha
 | .ty _, _, _, h, a, ha => by simp only [Ow] at h; rw [h.2] at ha; cases ha
 | .cls _, _, _, h, a, ha => by simp only [Ow] at h; rw [h.2] at ha; cases ha
 | .lst true xs, _, _, h, a, ha => by
  simp only [Ow] at h
  obtain ⟨b, vs, L', rfl, e, r, rfl⟩ := h
  rcases List.mem_cons.mp ha with rfl | ha
  ·exact ⟨_, e⟩
  ·exact OwL.dom r a ha
 | .lst false xs, _, _, h, a, ha => by simp only [Ow] at h; obtain ⟨_, _, _, _, _, rfl⟩ := h; cases ha
 | .tup xs, _, _, h, a, ha => by simp only [Ow] at h; obtain ⟨_, _, _, _, r⟩ := h; exact OwL.dom r a ha
 | .obj true C ks xs, _, _, h, a, ha => by
  simp only [Ow] at h
  obtain ⟨b, dx, vs, L', rfl, e, _, r, rfl⟩ := h
  rcases List.mem_cons.mp ha with rfl | ha
  ·exact ⟨_, e⟩
  ·exact OwL.dom r a ha
 | .obj false C ks xs, _, _, h, a, ha => by simp only [Ow] at h; obtain ⟨_, _, _, _, _, _, _, _, rfl⟩ := h; cases ha
 | .dct true ks xs, _, _, h, a, ha => by
  simp only [Ow] at h
  obtain ⟨b, vs, L', rfl, e, _, r, rfl⟩ := h
  rcases List.mem_cons.mp ha with rfl | ha
  ·exact ⟨_, e⟩
  ·exact OwL.dom r a ha
 | .dct false ks xs, _, _, h, a, ha => by simp only [Ow] at h; obtain ⟨_, _, _, _, _, _, _, rfl⟩ := h; cases ha
theorem OwL.dom : ∀ {xs : List D} {vs : List V} {L : List Addr}, OwL K F H xs vs L → ∀ a ∈ L, ∃ o, H a = some o
 | [], _, _, h, a, ha => by simp only [OwL] at h; rw [h.2] at ha; cases ha
 | x :: xs, _, _, h, a, ha => by
  simp only [OwL] at h
  obtain ⟨v, ws, L1, L2, rfl, h1, h2, rfl⟩ := h
  rcases List.mem_append.mp ha with ha | ha
  ·exact Ow.dom h1 a ha
  ·exact OwL.dom h2 a ha
end
noncomputable def Ext (F : Addr → Prop) (H : Hp) (F' : Addr → Prop) (H' : Hp) : Prop := ∀ a, F a → F' a ∧ H' a = H a
theorem Ext.refl : Ext F H F H := fun _ h => ⟨h, rfl⟩
theorem Ext.trans {F'' : Addr → Prop} {H'' : Hp} (a : Ext F H F' H') (b : Ext F' H' F'' H'') : Ext F H F'' H'' := fun x h =>
 ⟨(b x (a x h).1).1, ((b x (a x h).1).2).trans (a x h).2⟩
theorem Rd.eq {a : Addr} {u : HO} (h : Rd H a u) (e : H' a = H a) : Rd H' a u := by
 rcases h with h | ⟨o, h⟩
 ·exact .inl (e.trans h)
 ·exact .inr ⟨o, e.trans h⟩
theorem FL.ext {a : Addr} {vs : List V} (h : FL K F H a vs) (x : Ext F H F' H') : FL K F' H' a vs := by
 rcases h with ⟨f, r⟩ | h
 ·exact .inl ⟨(x a f).1, Rd.eq r (x a f).2⟩
 ·exact .inr h
theorem FT.ext {a : Addr} {vs : List V} {L : List Addr} (h : FT K F H a vs L) (x : Ext F H F' H') : FT K F' H' a vs L := by
 rcases h with ⟨f, r⟩ | h
 ·exact .inl ⟨(x a f).1, (x a f).2.trans r⟩
 ·exact .inr h
theorem FT.nil {a : Addr} {vs : List V} {L : List Addr} (h : FT K F H a vs L) : FT K F H a vs [] := by
 rcases h with h | h
 ·exact .inl h
 ·exact .inr ⟨h.1, rfl⟩
theorem FL.sq {a : Addr} {vs : List V} (h : FL K F H a vs) : SqL K H a vs := by
 rcases h with ⟨_, r⟩ | h
 ·exact .inl r
 ·exact h H
theorem FT.sq {a : Addr} {vs : List V} {L : List Addr} (h : FT K F H a vs L) : SqT K H a vs := by
 rcases h with ⟨_, r⟩ | h
 ·exact .inl (.inl r)
 ·exact h.1 H
mutual
theorem Ow.mono (x : Ext F H F' H') : ∀ {d : D} {v : V} {L : List Addr}, Ow K F H d v L → (∀ a ∈ L, H' a = H a) → Ow K F' H' d v L
 | .hole, _, _, h, _ => by simp only [Ow] at h ⊢; exact h
 | .cell, _, _, h, k => by simp only [Ow] at h ⊢; obtain ⟨b, o, rfl, e, rfl⟩ := h; exact ⟨b, o, rfl, (k b (by simp)).trans e, rfl⟩
 | .node _ _, _, _, h, k => by simp only [Ow] at h ⊢; obtain ⟨rfl, e, rfl⟩ := h; exact ⟨rfl, (k _ (by simp)).trans e, rfl⟩
 | .non, _, _, h, _ => by simp only [Ow] at h ⊢; exact h
 | .bl _, _, _, h, _ => by simp only [Ow] at h ⊢; exact h
 | .int _, _, _, h, _ => by simp only [Ow] at h ⊢; exact h
 | .str _, _, _, h, _ => by simp only [Ow] at h ⊢; exact h
 | .ty _, _, _, h, _ => by simp only [Ow] at h ⊢; exact h
 | .cls _, _, _, h, _ => by simp only [Ow] at h ⊢; exact h
 | .lst true xs, _, _, h, k => by
  simp only [Ow] at h ⊢
  obtain ⟨b, vs, L', rfl, e, r, rfl⟩ := h
  exact ⟨b, vs, L', rfl, (k b (by simp)).trans e, OwL.mono x r fun a ha => k a (by simp [ha]), rfl⟩
 | .lst false xs, _, _, h, k => by
  simp only [Ow] at h ⊢
  obtain ⟨b, vs, rfl, e, r, rfl⟩ := h
  exact ⟨b, vs, rfl, e.ext x, OwL.mono x r (fun a ha => by cases ha), rfl⟩
 | .tup xs, _, _, h, k => by
  simp only [Ow] at h ⊢
  obtain ⟨b, vs, rfl, e, r⟩ := h
  exact ⟨b, vs, rfl, e.ext x, OwL.mono x r k⟩
 | .obj true C ks xs, _, _, h, k => by
  simp only [Ow] at h ⊢
  obtain ⟨b, dx, vs, L', rfl, e, el, r, rfl⟩ := h
  exact ⟨b, dx, vs, L', rfl, (k b (by simp)).trans e, el, OwL.mono x r fun a ha => k a (by simp [ha]), rfl⟩
 | .obj false C ks xs, _, _, h, k => by
  simp only [Ow] at h ⊢
  obtain ⟨b, dx, vs, rfl, e, f, el, r, rfl⟩ := h
  exact ⟨b, dx, vs, rfl, (x b f).2.trans e, (x b f).1, el, OwL.mono x r (fun a ha => by cases ha), rfl⟩
 | .dct true ks xs, _, _, h, k => by
  simp only [Ow] at h ⊢
  obtain ⟨b, vs, L', rfl, e, el, r, rfl⟩ := h
  exact ⟨b, vs, L', rfl, (k b (by simp)).trans e, el, OwL.mono x r fun a ha => k a (by simp [ha]), rfl⟩
 | .dct false ks xs, _, _, h, k => by
  simp only [Ow] at h ⊢
  obtain ⟨b, vs, rfl, e, f, el, r, rfl⟩ := h
  exact ⟨b, vs, rfl, (x b f).2.trans e, (x b f).1, el, OwL.mono x r (fun a ha => by cases ha), rfl⟩
theorem OwL.mono (x : Ext F H F' H') : ∀ {xs : List D} {vs : List V} {L : List Addr}, OwL K F H xs vs L → (∀ a ∈ L, H' a = H a) → OwL K F' H' xs vs L
 | [], _, _, h, _ => by simp only [OwL] at h ⊢; exact h
 | y :: xs, _, _, h, k => by
  simp only [OwL] at h ⊢
  obtain ⟨v, ws, L1, L2, rfl, h1, h2, rfl⟩ := h
  exact ⟨v, ws, L1, L2, rfl, Ow.mono x h1 fun a ha => k a (by simp [ha]), OwL.mono x h2 fun a ha => k a (by simp [ha]), rfl⟩
end
mutual
theorem Ow.fz (fs : ∀ a, F a → F' a) : ∀ {d : D} {v : V} {L : List Addr}, Ow K F H d v L → (∀ a ∈ L, F' a) → Ow K F' H d.fz v []
 | .hole, _, _, h, _ => by simp only [Ow, D.fz] at h ⊢
 | .cell, _, _, h, k => by simp only [Ow, D.fz] at h ⊢
 | .node _ _, _, _, h, k => by simp only [Ow, D.fz] at h ⊢
 | .non, _, _, h, _ => by simp only [Ow, D.fz] at h ⊢; exact ⟨h.1, trivial⟩
 | .bl _, _, _, h, _ => by simp only [Ow, D.fz] at h ⊢; exact ⟨h.1, trivial⟩
 | .int _, _, _, h, _ => by simp only [Ow, D.fz] at h ⊢; exact ⟨h.1, trivial⟩
 | .str _, _, _, h, _ => by simp only [Ow, D.fz] at h ⊢; exact ⟨h.1, trivial⟩
 | .ty _, _, _, h, _ => by simp only [Ow, D.fz] at h ⊢; exact ⟨h.1, trivial⟩
 | .cls _, _, _, h, _ => by simp only [Ow, D.fz] at h ⊢; exact ⟨h.1, trivial⟩
 | .lst true xs, _, _, h, k => by
  simp only [Ow, D.fz] at h ⊢
  obtain ⟨b, vs, L', rfl, e, r, rfl⟩ := h
  exact ⟨b, vs, rfl, .inl ⟨k b (by simp), .inl e⟩, OwL.fz fs r fun a ha => k a (by simp [ha]), trivial⟩
 | .lst false xs, _, _, h, k => by
  simp only [Ow, D.fz] at h ⊢
  obtain ⟨b, vs, rfl, e, r, rfl⟩ := h
  exact ⟨b, vs, rfl, e.ext (fun a f => ⟨fs a f, rfl⟩), OwL.fz fs r (fun a ha => by cases ha), trivial⟩
 | .tup xs, _, _, h, k => by
  simp only [Ow, D.fz] at h ⊢
  obtain ⟨b, vs, rfl, e, r⟩ := h
  exact ⟨b, vs, rfl, (e.ext (fun a f => ⟨fs a f, rfl⟩)).nil, OwL.fz fs r k⟩
 | .obj true C ks xs, _, _, h, k => by
  simp only [Ow, D.fz] at h ⊢
  obtain ⟨b, dx, vs, L', rfl, e, el, r, rfl⟩ := h
  exact ⟨b, dx, vs, rfl, e, k b (by simp), el, OwL.fz fs r fun a ha => k a (by simp [ha]), trivial⟩
 | .obj false C ks xs, _, _, h, k => by
  simp only [Ow, D.fz] at h ⊢
  obtain ⟨b, dx, vs, rfl, e, f, el, r, rfl⟩ := h
  exact ⟨b, dx, vs, rfl, e, fs b f, el, OwL.fz fs r (fun a ha => by cases ha), trivial⟩
 | .dct true ks xs, _, _, h, k => by
  simp only [Ow, D.fz] at h ⊢
  obtain ⟨b, vs, L', rfl, e, el, r, rfl⟩ := h
  exact ⟨b, vs, rfl, e, k b (by simp), el, OwL.fz fs r fun a ha => k a (by simp [ha]), trivial⟩
 | .dct false ks xs, _, _, h, k => by
  simp only [Ow, D.fz] at h ⊢
  obtain ⟨b, vs, rfl, e, f, el, r, rfl⟩ := h
  exact ⟨b, vs, rfl, e, fs b f, el, OwL.fz fs r (fun a ha => by cases ha), trivial⟩
theorem OwL.fz (fs : ∀ a, F a → F' a) : ∀ {xs : List D} {vs : List V} {L : List Addr}, OwL K F H xs vs L → (∀ a ∈ L, F' a) → OwL K F' H (D.fzL xs) vs []
 | [], _, _, h, _ => by simp only [OwL, D.fzL] at h ⊢; exact ⟨h.1, trivial⟩
 | y :: xs, _, _, h, k => by
  simp only [OwL, D.fzL] at h ⊢
  obtain ⟨v, ws, L1, L2, rfl, h1, h2, rfl⟩ := h
  exact ⟨v, ws, [], [], rfl, Ow.fz fs h1 fun a ha => k a (by simp [ha]), OwL.fz fs h2 fun a ha => k a (by simp [ha]), rfl⟩
end
noncomputable abbrev Ro := List (D × V)
noncomputable def OwP (K : PySem.W.Frag) (F : Addr → Prop) (H : Hp) : Ro → List Addr → Prop
 | [], L => L = []
 | (d, v) :: R, L => ∃ L1 L2, Ow K F H d v L1 ∧ OwP K F H R L2 ∧ L = L1 ++ L2
theorem OwP.dom : ∀ {R : Ro} {L : List Addr}, OwP K F H R L → ∀ a ∈ L, ∃ o, H a = some o
 | [], _, h, a, ha => by cases h; cases ha
 | (d, v) :: R, _, ⟨L1, L2, h1, h2, e⟩, a, ha => by
  subst e
  rcases List.mem_append.mp ha with ha | ha
  ·exact h1.dom a ha
  ·exact OwP.dom h2 a ha
theorem OwP.mono (x : Ext F H F' H') : ∀ {R : Ro} {L : List Addr}, OwP K F H R L → (∀ a ∈ L, H' a = H a) → OwP K F' H' R L
 | [], _, h, _ => h
 | (d, v) :: R, _, ⟨L1, L2, h1, h2, e⟩, k => ⟨L1, L2, h1.mono x fun a ha => k a (by simp [e, ha]), OwP.mono x h2 fun a ha => k a (by simp [e, ha]), e⟩
theorem OwP.append : ∀ {R S : Ro} {L M : List Addr}, OwP K F H R L → OwP K F H S M → OwP K F H (R ++ S) (L ++ M)
 | [], _, _, _, h, k => by cases h; exact k
 | (d, v) :: R, _, _, _, ⟨L1, L2, h1, h2, e⟩, k => ⟨L1, L2 ++ _, h1, OwP.append h2 k, by rw [e, List.append_assoc]⟩
theorem OwP.split : ∀ {R S : Ro} {N : List Addr}, OwP K F H (R ++ S) N → ∃ L M, N = L ++ M ∧ OwP K F H R L ∧ OwP K F H S M
 | [], _, N, h => ⟨[], N, rfl, rfl, h⟩
 | (d, v) :: R, _, _, ⟨L1, L2, h1, h2, e⟩ => by
  obtain ⟨L, M, e2, a, b⟩ := OwP.split h2
  exact ⟨L1 ++ L, M, by rw [e, e2, List.append_assoc], ⟨L1, L, h1, a, rfl⟩, b⟩
theorem OwP.perm {R S : Ro} (p : R.Perm S) : ∀ {L : List Addr}, OwP K F H R L → ∃ M, L.Perm M ∧ OwP K F H S M := by
 induction p with
 | nil => intro L h; exact ⟨L, .refl _, h⟩
 | cons x _ ih =>
  rintro L ⟨L1, L2, h1, h2, e⟩
  obtain ⟨M, pm, h3⟩ := ih h2
  subst e
  exact ⟨L1 ++ M, pm.append_left L1, L1, M, h1, h3, rfl⟩
 | swap x y l =>
  rintro L ⟨L1, L2, h1, ⟨L3, L4, h3, h4, e2⟩, e⟩
  subst e; subst e2
  refine ⟨L3 ++ (L1 ++ L4), ?_, L3, L1 ++ L4, h3, ⟨L1, L4, h1, h4, rfl⟩, rfl⟩
  rw [← List.append_assoc, ← List.append_assoc]
  exact List.perm_append_comm.append_right L4
 | trans _ _ ih1 ih2 =>
  intro L h
  obtain ⟨M, p1, h1⟩ := ih1 h
  obtain ⟨N, p2, h2⟩ := ih2 h1
  exact ⟨N, p1.trans p2, h2⟩
theorem OwL.toP : ∀ {xs : List D} {vs : List V} {L : List Addr}, OwL K F H xs vs L → xs.length = vs.length ∧ OwP K F H (xs.zip vs) L
 | [], _, _, h => by simp only [OwL] at h; obtain ⟨rfl, rfl⟩ := h; exact ⟨rfl, rfl⟩
 | x :: xs, _, _, h => by
  simp only [OwL] at h
  obtain ⟨v, ws, L1, L2, rfl, h1, h2, rfl⟩ := h
  have r := h2.toP
  exact ⟨by simp [r.1], L1, L2, h1, r.2, rfl⟩
theorem OwL.ofP : ∀ {xs : List D} {vs : List V} {L : List Addr}, xs.length = vs.length → OwP K F H (xs.zip vs) L → OwL K F H xs vs L
 | [], [], _, _, h => by simp only [OwL]; exact ⟨trivial, h⟩
 | x :: xs, v :: vs, _, e, h => by
  obtain ⟨L1, L2, h1, h2, e2⟩ := h
  simp only [OwL]
  exact ⟨v, vs, L1, L2, rfl, h1, OwL.ofP (by simpa using e) h2, e2⟩
structure G (K : PySem.W.Frag) (F : Addr → Prop) (H : Hp) (R : Ro) : Prop where
 own : ∃ L, OwP K F H R L ∧ L.Nodup ∧ ∀ a ∈ L, ¬ F a
 dom : ∀ a, F a → ∃ o, H a = some o
variable {R S : Ro} {d : D} {v : V}
theorem G.perm (g : G K F H R) (p : R.Perm S) : G K F H S := by
 obtain ⟨L, h, n, f⟩ := g.own
 obtain ⟨M, pm, h'⟩ := h.perm p
 exact ⟨⟨M, h', pm.nodup_iff.mp n, fun a ha => f a (pm.mem_iff.mpr ha)⟩, g.dom⟩
theorem G.pop (g : G K F H ((d, v) :: R)) : G K F H R := by
 obtain ⟨L, ⟨L1, L2, h1, h2, rfl⟩, n, f⟩ := g.own
 exact ⟨⟨L2, h2, (List.nodup_append.mp n).2.1, fun a ha => f a (by simp [ha])⟩, g.dom⟩
theorem G.popN (g : G K F H (S ++ R)) : G K F H R := by
 induction S with
 | nil => exact g
 | cons x S ih => exact ih (G.pop (d := x.1) (v := x.2) g)
theorem G.left (g : G K F H (R ++ S)) : G K F H R := (g.perm List.perm_append_comm).popN
noncomputable def Bor (K : PySem.W.Frag) (F : Addr → Prop) (H : Hp) (d : D) (v : V) : Prop := ∃ L, Ow K F H d v L
theorem G.bor (g : G K F H R) (h : (d, v) ∈ R) : Bor K F H d v := by
 obtain ⟨A, B, rfl⟩ := List.append_of_mem h
 obtain ⟨L, ⟨L1, L2, h1, h2, rfl⟩, n, f⟩ := (g.popN).own
 exact ⟨L1, h1⟩
theorem G.push (g : G K F H R) (h : Ow K F H d v []) : G K F H ((d, v) :: R) := by
 obtain ⟨L, h1, n, f⟩ := g.own
 exact ⟨⟨L, ⟨[], L, h, h1, rfl⟩, n, f⟩, g.dom⟩
theorem G.alloc {p : Addr} {o : HO} (g : G K F H R) (hp : H p = none) : G K F (upd H p o) ((.cell, .ref p) :: R) ∧ Ext F H F (upd H p o) := by
 obtain ⟨L, h1, n, f⟩ := g.own
 have nF : ∀ a, F a → a ≠ p := fun a fa e => by obtain ⟨o, h⟩ := g.dom a fa; rw [e, hp] at h; cases h
 have nL : ∀ a ∈ L, a ≠ p := fun a ha e => by obtain ⟨o, h⟩ := h1.dom a ha; rw [e, hp] at h; cases h
 have x : Ext F H F (upd H p o) := fun a fa => ⟨fa, upd_ne (nF a fa)⟩
 refine ⟨⟨⟨p :: L, ⟨[p], L, ?_, h1.mono x fun a ha => upd_ne (nL a ha), rfl⟩, List.nodup_cons.mpr ⟨fun h => nL p h rfl, n⟩, fun a ha fa => ?_⟩, fun a fa => ?_⟩, x⟩
 ·simp only [Ow]; exact ⟨p, o, rfl, upd_same, rfl⟩
 ·rcases List.mem_cons.mp ha with rfl | ha
  ·exact nF _ fa rfl
  ·exact f a ha fa
 ·rw [upd_ne (nF a fa)]; exact g.dom a fa
theorem G.write {a : Addr} {o : HO} (g : G K F H ((.cell, .ref a) :: R)) : G K F (upd H a o) ((.cell, .ref a) :: R) ∧ Ext F H F (upd H a o) := by
 obtain ⟨L, ⟨L1, L2, h1, h2, rfl⟩, n, f⟩ := g.own
 simp only [Ow] at h1
 obtain ⟨b, ob, e, hb, rfl⟩ := h1
 cases e
 have nF : ∀ c, F c → c ≠ a := fun c fc e => f a (by simp) (e ▸ fc)
 have nL : ∀ c ∈ L2, c ≠ a := fun c hc e => (List.nodup_cons.mp n).1 (e ▸ hc)
 have x : Ext F H F (upd H a o) := fun c fc => ⟨fc, upd_ne (nF c fc)⟩
 refine ⟨⟨⟨[a] ++ L2, ⟨[a], L2, ?_, h2.mono x fun c hc => upd_ne (nL c hc), rfl⟩, n, f⟩, fun c fc => ?_⟩, x⟩
 ·simp only [Ow]; exact ⟨a, o, rfl, upd_same, rfl⟩
 ·rw [upd_ne (nF c fc)]; exact g.dom c fc
theorem G.openL {xs : List D} (g : G K F H ((.lst true xs, v) :: R)) : ∃ a vs, v = .ref a ∧ H a = some (.lst vs) ∧ xs.length = vs.length ∧ G K F H ((.cell, .ref a) :: (xs.zip vs ++ R)) := by
 obtain ⟨L, ⟨L1, L2, h1, h2, rfl⟩, n, f⟩ := g.own
 simp only [Ow] at h1
 obtain ⟨a, vs, L', rfl, e, r, rfl⟩ := h1
 refine ⟨a, vs, rfl, e, r.toP.1, ⟨a :: L' ++ L2, ⟨[a], L' ++ L2, ?_, r.toP.2.append h2, rfl⟩, n, f⟩, g.dom⟩
 simp only [Ow]; exact ⟨a, _, rfl, e, rfl⟩
theorem G.formL {xs : List D} {vs : List V} {a : Addr} (g : G K F H ((.cell, .ref a) :: (xs.zip vs ++ R))) (hl : xs.length = vs.length) (e : H a = some (.lst vs)) : G K F H ((.lst true xs, .ref a) :: R) := by
 obtain ⟨L, ⟨L1, L2, h1, h2, rfl⟩, n, f⟩ := g.own
 simp only [Ow] at h1
 obtain ⟨b, ob, e', hb, rfl⟩ := h1
 cases e'
 obtain ⟨M, N, rfl, hm, hn⟩ := h2.split
 refine ⟨⟨(a :: M) ++ N, ⟨a :: M, N, ?_, hn, rfl⟩, by simpa using n, fun c hc => f c (by simpa using hc)⟩, g.dom⟩
 simp only [Ow]
 exact ⟨a, vs, M, rfl, e, OwL.ofP hl hm, rfl⟩
theorem G.openN {xs : List D} (g : G K F H ((.lst true xs, v) :: R)) : ∃ a vs, v = .ref a ∧ H a = some (.lst vs) ∧ xs.length = vs.length ∧ G K F H ((.node a vs, .ref a) :: (xs.zip vs ++ R)) := by
 obtain ⟨L, ⟨L1, L2, h1, h2, rfl⟩, n, f⟩ := g.own
 simp only [Ow] at h1
 obtain ⟨a, vs, L', rfl, e, r, rfl⟩ := h1
 refine ⟨a, vs, rfl, e, r.toP.1, ⟨a :: L' ++ L2, ⟨[a], L' ++ L2, ?_, r.toP.2.append h2, rfl⟩, n, f⟩, g.dom⟩
 simp only [Ow]; exact ⟨trivial, e, trivial⟩
theorem G.formN {xs : List D} {vs : List V} {a : Addr} (g : G K F H ((.node a vs, .ref a) :: (xs.zip vs ++ R))) (hl : xs.length = vs.length) : H a = some (.lst vs) ∧ G K F H ((.lst true xs, .ref a) :: R) := by
 obtain ⟨L, ⟨L1, L2, h1, h2, rfl⟩, n, f⟩ := g.own
 simp only [Ow] at h1
 obtain ⟨_, e, rfl⟩ := h1
 obtain ⟨M, N, rfl, hm, hn⟩ := h2.split
 refine ⟨e, ⟨⟨(a :: M) ++ N, ⟨a :: M, N, ?_, hn, rfl⟩, by simpa using n, fun c hc => f c (by simpa using hc)⟩, g.dom⟩⟩
 simp only [Ow]
 exact ⟨a, vs, M, rfl, e, OwL.ofP hl hm, rfl⟩
theorem G.nodeAt {vs : List V} {a : Addr} (g : G K F H R) (h : (D.node a vs, V.ref a) ∈ R) : H a = some (.lst vs) := by
 obtain ⟨L, o⟩ : ∃ L, Ow K F H (.node a vs) (.ref a) L := by
  obtain ⟨A, B, rfl⟩ := List.append_of_mem h
  obtain ⟨L, ⟨L1, L2, h1, h2, rfl⟩, n, f⟩ := (g.popN).own
  exact ⟨L1, h1⟩
 simp only [Ow] at o
 exact o.2.1
theorem G.openT {xs : List D} (g : G K F H ((.tup xs, v) :: R)) : ∃ a vs, v = .ref a ∧ FT K F H a vs [] ∧ xs.length = vs.length ∧ G K F H (xs.zip vs ++ R) := by
 obtain ⟨L, ⟨L1, L2, h1, h2, rfl⟩, n, f⟩ := g.own
 simp only [Ow] at h1
 obtain ⟨a, vs, rfl, e, r⟩ := h1
 exact ⟨a, vs, rfl, e.nil, r.toP.1, ⟨L1 ++ L2, r.toP.2.append h2, n, f⟩, g.dom⟩
theorem G.formT {xs : List D} {vs : List V} {a : Addr} (g : G K F H (xs.zip vs ++ R)) (hl : xs.length = vs.length) (e : F a ∧ H a = some (.tup vs)) : G K F H ((.tup xs, .ref a) :: R) := by
 obtain ⟨L, h, n, f⟩ := g.own
 obtain ⟨M, N, rfl, hm, hn⟩ := h.split
 refine ⟨⟨M ++ N, ⟨M, N, ?_, hn, rfl⟩, n, f⟩, g.dom⟩
 simp only [Ow]
 exact ⟨a, vs, rfl, .inl e, OwL.ofP hl hm⟩
theorem G.freeze (g : G K F H ((d, v) :: R)) : ∃ F', Ext F H F' H ∧ G K F' H ((d.fz, v) :: R) ∧ Ow K F' H d.fz v [] := by
 obtain ⟨L, ⟨L1, L2, h1, h2, rfl⟩, n, f⟩ := g.own
 have x : Ext F H (fun a => F a ∨ a ∈ L1) H := fun a h => ⟨.inl h, rfl⟩
 have z : Ow K (fun a => F a ∨ a ∈ L1) H d.fz v [] := h1.fz (fun a h => .inl h) fun a h => .inr h
 refine ⟨fun a => F a ∨ a ∈ L1, x, ⟨⟨L2, ⟨[], L2, z, h2.mono x fun _ _ => rfl, rfl⟩, (List.nodup_append.mp n).2.1, fun a ha fa => ?_⟩, fun a fa => ?_⟩, z⟩
 ·rcases fa with fa | fa
  ·exact f a (by simp [ha]) fa
  ·exact (List.nodup_append.mp n).2.2 a fa a ha rfl
 ·rcases fa with fa | fa
  ·exact g.dom a fa
  ·exact h1.dom a fa
theorem G.layT {xs : List D} {vs : List V} {p : Addr} (g : G K F H (xs.zip vs ++ R)) (hl : xs.length = vs.length) (hp : H p = none) :
  ∃ F', Ext F H F' (upd H p (.tup vs)) ∧ G K F' (upd H p (.tup vs)) ((.tup xs, .ref p) :: R) := by
 obtain ⟨g1, x1⟩ := g.alloc (o := .tup vs) hp
 obtain ⟨F', x2, g2, _⟩ := g1.freeze
 obtain ⟨L, ⟨L1, L2, h1, h2, rfl⟩, n, f⟩ := g1.own
 have x : Ext F H (fun a => F a ∨ a = p) (upd H p (.tup vs)) := fun a h => ⟨.inl h, (x1 a h).2⟩
 have x' : Ext F (upd H p (.tup vs)) (fun a => F a ∨ a = p) (upd H p (.tup vs)) := fun a h => ⟨.inl h, rfl⟩
 simp only [Ow] at h1
 obtain ⟨b, ob, e', hb, rfl⟩ := h1
 cases e'
 refine ⟨_, x, G.formT (a := p) ⟨⟨L2, h2.mono x' fun _ _ => rfl, (List.nodup_cons.mp n).2, fun a ha fa => ?_⟩, fun a fa => ?_⟩ hl ⟨.inr rfl, upd_same⟩⟩
 ·rcases fa with fa | fa
  ·exact f a (by simp [ha]) fa
  ·subst fa; exact (List.nodup_cons.mp n).1 ha
 ·rcases fa with fa | fa
  ·exact g1.dom a fa
  ·subst fa; exact ⟨_, upd_same⟩
theorem G.ext (g : G K F H R) (x : Ext F H F' H') (k : ∀ a o, H a = some o → H' a = some o) (fr : ∀ a, F' a → F a ∨ H a = none) (dm : ∀ a, F' a → ∃ o, H' a = some o) : G K F' H' R := by
 obtain ⟨L, h, n, f⟩ := g.own
 refine ⟨⟨L, h.mono x fun a ha => ?_, n, fun a ha fa => ?_⟩, dm⟩
 ·obtain ⟨o, e⟩ := h.dom a ha
  rw [e, k a o e]
 ·obtain ⟨o, e⟩ := h.dom a ha
  rcases fr a fa with z | z
  ·exact f a ha z
  ·rw [e] at z; cases z
end
end DD
namespace DD
open PySem L2
section
variable {K : PySem.W.Frag} {F F' : Addr → Prop} {H H' : Hp}
noncomputable abbrev DSt := List (Option D)
noncomputable def sl : DSt → St → Ro
 | some d :: σD, some v :: σ => (d, v) :: sl σD σ
 | some _ :: σD, none :: σ => sl σD σ
 | none :: σD, _ :: σ => sl σD σ
 | _, _ => []
noncomputable def Mt : DSt → St → Prop
 | [], [] => True
 | none :: σD, _ :: σ => Mt σD σ
 | some _ :: σD, some _ :: σ => Mt σD σ
 | _, _ => False
theorem Mt.length : ∀ {σD : DSt} {σ : St}, Mt σD σ → σD.length = σ.length
 | [], [], _ => rfl
 | none :: σD, _ :: σ, h => by simp [Mt.length (σD := σD) (σ := σ) h]
 | some _ :: σD, some _ :: σ, h => by simp [Mt.length (σD := σD) (σ := σ) h]
theorem Mt.get : ∀ {σD : DSt} {σ : St} {i : Nat} {d : D}, Mt σD σ → σD[i]? = some (some d) → ∃ v, σ[i]? = some (some v)
 | none :: σD, _ :: σ, 0, d, h, e => by simp at e
 | some _ :: σD, some v :: σ, 0, d, h, e => ⟨v, rfl⟩
 | none :: σD, _ :: σ, i + 1, d, h, e => by simpa using Mt.get (i := i) (σD := σD) (σ := σ) h (by simpa using e)
 | some _ :: σD, some v :: σ, i + 1, d, h, e => by simpa using Mt.get (i := i) (σD := σD) (σ := σ) h (by simpa using e)
theorem Mt.clear : ∀ {σD : DSt} {σ : St} (i : Nat), Mt σD σ → Mt (σD.set i none) σ
 | [], [], _, h => h
 | none :: σD, _ :: σ, 0, h => h
 | some _ :: σD, some v :: σ, 0, h => h
 | none :: σD, _ :: σ, i + 1, h => Mt.clear (σD := σD) (σ := σ) i h
 | some _ :: σD, some v :: σ, i + 1, h => Mt.clear (σD := σD) (σ := σ) i h
theorem Mt.put : ∀ {σD : DSt} {σ : St} {i : Nat} {v : V} (d : D), Mt σD σ → σ[i]? = some (some v) → Mt (σD.set i (some d)) σ
 | [], [], _, _, _, _, e => by simp at e
 | none :: σD, o :: σ, 0, v, d, h, e => by simp at e; subst e; exact h
 | some _ :: σD, some v :: σ, 0, _, d, h, e => h
 | none :: σD, _ :: σ, i + 1, v, d, h, e => Mt.put (σD := σD) (σ := σ) (i := i) (v := v) d h (by simpa using e)
 | some _ :: σD, some _ :: σ, i + 1, v, d, h, e => Mt.put (σD := σD) (σ := σ) (i := i) (v := v) d h (by simpa using e)
theorem Mt.store : ∀ {σD : DSt} {σ : St} (i : Nat) (v : V) (d : D), Mt σD σ → Mt (σD.set i (some d)) (σ.set i (some v))
 | [], [], _, _, _, h => h
 | none :: σD, o :: σ, 0, v, d, h => h
 | some _ :: σD, some _ :: σ, 0, _, d, h => h
 | none :: σD, _ :: σ, i + 1, v, d, h => Mt.store (σD := σD) (σ := σ) i v d h
 | some _ :: σD, some _ :: σ, i + 1, v, d, h => Mt.store (σD := σD) (σ := σ) i v d h
theorem sl_take : ∀ {σD : DSt} {σ : St} {i : Nat} {d : D} {v : V}, σD[i]? = some (some d) → σ[i]? = some (some v) → (sl σD σ).Perm ((d, v) :: sl (σD.set i none) σ)
 | some _ :: σD, some _ :: σ, 0, d, v, e, e' => by simp at e e'; subst e; subst e'; exact .refl _
 | none :: σD, o :: σ, 0, d, v, e, e' => by simp at e
 | some _ :: σD, none :: σ, 0, d, v, e, e' => by simp at e'
 | none :: σD, _ :: σ, i + 1, d, v, e, e' => sl_take (σD := σD) (σ := σ) (i := i) (by simpa using e) (by simpa using e')
 | some x :: σD, none :: σ, i + 1, d, v, e, e' => sl_take (σD := σD) (σ := σ) (i := i) (by simpa using e) (by simpa using e')
 | some x :: σD, some y :: σ, i + 1, d, v, e, e' => ((sl_take (σD := σD) (σ := σ) (i := i) (by simpa using e) (by simpa using e')).cons _).trans (.swap _ _ _)
theorem sl_none : ∀ {σD : DSt} {σ : St} {i : Nat}, σD[i]? = some none → sl (σD.set i none) σ = sl σD σ
 | [], _, _, e => by simp at e
 | none :: σD, [], 0, _ => rfl
 | none :: σD, o :: σ, 0, _ => rfl
 | some _ :: σD, _, 0, e => by simp at e
 | x :: σD, [], i + 1, e => by cases x <;> rfl
 | none :: σD, _ :: σ, i + 1, e => sl_none (σD := σD) (σ := σ) (i := i) (by simpa using e)
 | some x :: σD, none :: σ, i + 1, e => sl_none (σD := σD) (σ := σ) (i := i) (by simpa using e)
 | some x :: σD, some y :: σ, i + 1, e => by
  show (x, y) :: sl (σD.set i none) σ = (x, y) :: sl σD σ
  rw [sl_none (σD := σD) (σ := σ) (i := i) (by simpa using e)]
theorem sl_put : ∀ {σD : DSt} {σ : St} {i : Nat} {v : V} (d : D), i < σD.length → σ[i]? = some (some v) → (sl (σD.set i (some d)) σ).Perm ((d, v) :: sl (σD.set i none) σ) := fun {σD σ i v} d h e => by
 have h1 := sl_take (σD := σD.set i (some d)) (σ := σ) (i := i) (d := d) (v := v) (by simp [h]) e
 rw [List.set_set] at h1
 exact h1
theorem sl_store : ∀ {σD : DSt} {σ : St} {i : Nat} {v : V}, sl (σD.set i none) (σ.set i (some v)) = sl (σD.set i none) σ
 | [], _, _, _ => by simp [sl]
 | x :: σD, [], i, _ => by simp
 | x :: σD, o :: σ, 0, _ => by cases o <;> rfl
 | none :: σD, o :: σ, i + 1, _ => sl_store (σD := σD) (σ := σ) (i := i)
 | some x :: σD, none :: σ, i + 1, _ => sl_store (σD := σD) (σ := σ) (i := i)
 | some x :: σD, some y :: σ, i + 1, _ => by
  show (x, y) :: sl (σD.set i none) (σ.set i _) = (x, y) :: sl (σD.set i none) σ
  rw [sl_store (σD := σD) (σ := σ) (i := i)]
theorem G.clear {σD : DSt} {σ : St} {R : Ro} (i : Nat) (m : Mt σD σ) (g : G K F H (sl σD σ ++ R)) : G K F H (sl (σD.set i none) σ ++ R) := by
 rcases h : σD[i]? with _ | _ | d
 ·rw [List.set_eq_of_length_le (List.getElem?_eq_none_iff.mp h)]; exact g
 ·rw [sl_none h]; exact g
 ·obtain ⟨v, hv⟩ := m.get h
  exact G.pop (d := d) (v := v) (g.perm ((sl_take h hv).append_right R))
structure Rel (K : PySem.W.Frag) (F : Addr → Prop) (H : Hp) (σD : DSt) (σ : St) (R : Ro) : Prop where
 mt : Mt σD σ
 g : G K F H (sl σD σ ++ R)
variable {σD : DSt} {σ : St} {R S : Ro} {d : D} {v : V} {i : Nat}
theorem Rel.perm (r : Rel K F H σD σ R) (p : R.Perm S) : Rel K F H σD σ S := ⟨r.mt, r.g.perm (p.append_left _)⟩
theorem Rel.front (r : Rel K F H σD σ R) : G K F H (R ++ sl σD σ) := r.g.perm List.perm_append_comm
theorem Rel.of (m : Mt σD σ) (g : G K F H (R ++ sl σD σ)) : Rel K F H σD σ R := ⟨m, g.perm List.perm_append_comm⟩
theorem Rel.get (r : Rel K F H σD σ R) (e : σD[i]? = some (some d)) : ∃ v, σ[i]? = some (some v) ∧ Bor K F H d v := by
 obtain ⟨v, hv⟩ := r.mt.get e
 exact ⟨v, hv, r.g.bor (List.mem_append_left _ ((sl_take e hv).mem_iff.mpr (by simp)))⟩
theorem Rel.take (r : Rel K F H σD σ R) (e : σD[i]? = some (some d)) : ∃ v, σ[i]? = some (some v) ∧ Rel K F H (σD.set i none) σ ((d, v) :: R) := by
 obtain ⟨v, hv⟩ := r.mt.get e
 refine ⟨v, hv, r.mt.clear i, r.g.perm ?_⟩
 exact ((sl_take e hv).append_right R).trans List.perm_middle.symm
theorem Rel.put (r : Rel K F H σD σ ((d, v) :: R)) (e : σ[i]? = some (some v)) : Rel K F H (σD.set i (some d)) σ R := by
 have hi : i < σD.length := by rw [r.mt.length]; exact (List.getElem?_eq_some_iff.mp e).1
 refine ⟨r.mt.put d e, (r.g.clear i r.mt).perm ?_⟩
 exact List.perm_middle.trans ((sl_put d hi e).append_right R).symm
theorem Rel.store (r : Rel K F H σD σ ((d, v) :: R)) (hi : i < σ.length) : Rel K F H (σD.set i (some d)) (σ.set i (some v)) R := by
 have hi' : i < σD.length := by rw [r.mt.length]; exact hi
 refine ⟨r.mt.store i v d, (r.g.clear i r.mt).perm ?_⟩
 have h := sl_put (σD := σD) (σ := σ.set i (some v)) (i := i) (v := v) d hi' (by simp [hi])
 rw [sl_store] at h
 exact List.perm_middle.trans (h.append_right R).symm
theorem Rel.pop (r : Rel K F H σD σ ((d, v) :: R)) : Rel K F H σD σ R := Rel.of r.mt (r.front).pop
theorem Rel.popN (r : Rel K F H σD σ (S ++ R)) : Rel K F H σD σ R := Rel.of r.mt (by have h := r.front; rw [List.append_assoc] at h; exact h.popN)
theorem Rel.push (r : Rel K F H σD σ R) (h : Ow K F H d v []) : Rel K F H σD σ ((d, v) :: R) := Rel.of r.mt (r.front.push h)
theorem Rel.bor (r : Rel K F H σD σ R) (h : (d, v) ∈ R) : Bor K F H d v := r.g.bor (List.mem_append_right _ h)
theorem Rel.freeze (r : Rel K F H σD σ ((d, v) :: R)) : ∃ F', Ext F H F' H ∧ Rel K F' H σD σ ((d.fz, v) :: R) ∧ Ow K F' H d.fz v [] := by
 obtain ⟨F', x, g, o⟩ := r.front.freeze
 exact ⟨F', x, Rel.of r.mt g, o⟩
theorem Rel.openL {xs : List D} (r : Rel K F H σD σ ((.lst true xs, v) :: R)) : ∃ a vs, v = .ref a ∧ H a = some (.lst vs) ∧ xs.length = vs.length ∧ Rel K F H σD σ ((.cell, .ref a) :: (xs.zip vs ++ R)) := by
 obtain ⟨a, vs, e, h, l, g⟩ := r.front.openL
 exact ⟨a, vs, e, h, l, Rel.of r.mt (by simpa using g)⟩
theorem Rel.formL {xs : List D} {vs : List V} {a : Addr} (r : Rel K F H σD σ ((.cell, .ref a) :: (xs.zip vs ++ R))) (hl : xs.length = vs.length) (e : H a = some (.lst vs)) : Rel K F H σD σ ((.lst true xs, .ref a) :: R) :=
 Rel.of r.mt (G.formL (vs := vs) (by simpa using r.front) hl e)
theorem Rel.openN {xs : List D} (r : Rel K F H σD σ ((.lst true xs, v) :: R)) : ∃ a vs, v = .ref a ∧ H a = some (.lst vs) ∧ xs.length = vs.length ∧ Rel K F H σD σ ((.node a vs, .ref a) :: (xs.zip vs ++ R)) := by
 obtain ⟨a, vs, e, h, l, g⟩ := r.front.openN
 exact ⟨a, vs, e, h, l, Rel.of r.mt (by simpa using g)⟩
theorem Rel.formN {xs : List D} {vs : List V} {a : Addr} (r : Rel K F H σD σ ((.node a vs, .ref a) :: (xs.zip vs ++ R))) (hl : xs.length = vs.length) : Rel K F H σD σ ((.lst true xs, .ref a) :: R) :=
 Rel.of r.mt (G.formN (vs := vs) (by simpa using r.front) hl).2
theorem Rel.nodeAt {vs : List V} {a : Addr} (r : Rel K F H σD σ R) (h : (D.node a vs, V.ref a) ∈ R) : H a = some (.lst vs) := r.g.nodeAt (List.mem_append_right _ h)
theorem Rel.openT {xs : List D} (r : Rel K F H σD σ ((.tup xs, v) :: R)) : ∃ a vs, v = .ref a ∧ FT K F H a vs [] ∧ xs.length = vs.length ∧ Rel K F H σD σ (xs.zip vs ++ R) := by
 obtain ⟨a, vs, e, h, l, g⟩ := r.front.openT
 exact ⟨a, vs, e, h, l, Rel.of r.mt (by simpa using g)⟩
theorem Rel.alloc {p : Addr} {o : HO} (r : Rel K F H σD σ R) (hp : H p = none) : Rel K F (upd H p o) σD σ ((.cell, .ref p) :: R) ∧ Ext F H F (upd H p o) := by
 obtain ⟨g, x⟩ := r.front.alloc (o := o) hp
 exact ⟨Rel.of r.mt g, x⟩
theorem Rel.write {a : Addr} {o : HO} (r : Rel K F H σD σ ((.cell, .ref a) :: R)) : Rel K F (upd H a o) σD σ ((.cell, .ref a) :: R) ∧ Ext F H F (upd H a o) := by
 obtain ⟨g, x⟩ := r.front.write (o := o)
 exact ⟨Rel.of r.mt g, x⟩
theorem Rel.layL {xs : List D} {vs : List V} {p : Addr} (r : Rel K F H σD σ (xs.zip vs ++ R)) (hl : xs.length = vs.length) (hp : H p = none) :
  Rel K F (upd H p (.lst vs)) σD σ ((.lst true xs, .ref p) :: R) ∧ Ext F H F (upd H p (.lst vs)) := by
 obtain ⟨r1, x⟩ := r.alloc (o := .lst vs) hp
 exact ⟨r1.formL hl upd_same, x⟩
theorem Rel.layT {xs : List D} {vs : List V} {p : Addr} (r : Rel K F H σD σ (xs.zip vs ++ R)) (hl : xs.length = vs.length) (hp : H p = none) :
  ∃ F', Ext F H F' (upd H p (.tup vs)) ∧ Rel K F' (upd H p (.tup vs)) σD σ ((.tup xs, .ref p) :: R) := by
 obtain ⟨F', x, g⟩ := G.layT (R := R ++ sl σD σ) (by simpa using r.front) hl hp
 exact ⟨F', x, Rel.of r.mt g⟩
structure Grow (F : Addr → Prop) (H : Hp) (F' : Addr → Prop) (H' : Hp) : Prop where
 x : Ext F H F' H'
 k : ∀ a o, H a = some o → H' a = some o
 fr : ∀ a, F' a → F a ∨ H a = none
 dm : (∀ a, F a → ∃ o, H a = some o) → ∀ a, F' a → ∃ o, H' a = some o
theorem Grow.refl : Grow F H F H := ⟨Ext.refl, fun _ _ e => e, fun _ h => .inl h, fun h => h⟩
theorem Grow.trans {F'' : Addr → Prop} {H'' : Hp} (a : Grow F H F' H') (b : Grow F' H' F'' H'') : Grow F H F'' H'' :=
 ⟨a.x.trans b.x, fun x o e => b.k x o (a.k x o e), fun x h => by
  rcases b.fr x h with h | h
  ·exact a.fr x h
  ·refine .inr ?_
   rcases e : H x with _ | o
   ·rfl
   ·rw [a.k x o e] at h
    exact (nomatch h), fun d => b.dm (a.dm d)⟩
theorem Rel.grow (r : Rel K F H σD σ R) (g : Grow F H F' H') : Rel K F' H' σD σ R := ⟨r.mt, r.g.ext g.x g.k g.fr (g.dm r.g.dom)⟩
theorem Bor.grow (b : Bor K F H d v) (g : Grow F H F' H') : Bor K F' H' d v := by
 obtain ⟨L, h⟩ := b
 exact ⟨L, h.mono g.x fun a ha => by obtain ⟨o, e⟩ := h.dom a ha; rw [e, g.k a o e]⟩
end
end DD
namespace DD
open PySem PySem.Spec PyProof.Rows L2
noncomputable abbrev St := L2.St
noncomputable def D.sc : D → Option V
 | .non => some .non
 | .bl b => some (.bl b)
 | .int i => some (.int i)
 | .str x => some (.str x)
 | .ty n => some (.ty n)
 | .cls a => some (.ref a)
 | _ => none
section
variable {K : PySem.W.Frag} {F F' : Addr → Prop} {H H' : Hp} {d : D} {v w : V} {L : List Addr} {R : Ro} {σD : DSt} {σ : St}
theorem Ow.of_sc (h : d.sc = some w) : Ow K F H d w [] := by
 cases d <;> simp only [D.sc] at h <;> cases h <;> simp only [Ow] <;> exact ⟨trivial, trivial⟩
theorem Ow.sc (o : Ow K F H d v L) (h : d.sc = some w) : v = w ∧ L = [] := by
 cases d <;> simp only [D.sc] at h <;> cases h <;> simp only [Ow] at o <;> exact o
theorem Bor.sc (b : Bor K F H d v) (h : d.sc = some w) : v = w := by obtain ⟨L, o⟩ := b; exact (o.sc h).1
theorem Rel.scal (r : Rel K F H σD σ R) (h : d.sc = some w) : Rel K F H σD σ ((d, w) :: R) := r.push (Ow.of_sc h)
theorem Bor.int {i : Int} (b : Bor K F H (.int i) v) : v = .int i := b.sc rfl
theorem Bor.bl {i : Bool} (b : Bor K F H (.bl i) v) : v = .bl i := b.sc rfl
theorem Bor.str {i : Str} (b : Bor K F H (.str i) v) : v = .str i := b.sc rfl
end
section
variable {X : Cx} {e : Expr} {es : List Expr} {st : Stmt} {sts : List Stmt}
theorem PE_imp {t t' : TE} (h : PE X e t) (i : ∀ σ H Q, t' σ H Q → t σ H Q) : PE X e t' := fun pins s σ H Q I h' => h pins s σ H Q I (i σ H Q h')
theorem PT_imp {t t' : TT} (h : PT X e t) (i : ∀ σ H Q, t' σ H Q → t σ H Q) : PT X e t' := fun pins s σ H Q I h' => h pins s σ H Q I (i σ H Q h')
theorem PW_imp {t t' : TT} (h : PW X e t) (i : ∀ σ H Q, t' σ H Q → t σ H Q) : PW X e t' := fun wh pins s σ H Q I h' => h wh pins s σ H Q I (i σ H Q h')
theorem PA_imp {t t' : TA} (h : PA X es t) (i : ∀ σ H Q, t' σ H Q → t σ H Q) : PA X es t' := fun p pins s σ H Q I h' => h p pins s σ H Q I (i σ H Q h')
theorem PS_imp {t t' : TS} (h : PS X st t) (i : ∀ D σ H, t' D σ H → t D σ H) : PS X st t' := fun pins s σ H D I h' => h pins s σ H D I (i D σ H h')
theorem PSs_imp {t t' : TS} (h : PSs X sts t) (i : ∀ D σ H, t' D σ H → t D σ H) : PSs X sts t' := fun pins s σ H D I h' => h pins s σ H D I (i D σ H h')
theorem OpR_imp {f : Value → Value → Sem Value} {r r' : R2} (h : OpR X f r) (i : ∀ x y H Q, r' x y H Q → r x y H Q) : OpR X f r' := fun pins s σ H x y v u Q I a b h' => h pins s σ H x y v u Q I a b (i x y H Q h')
end
noncomputable abbrev DE := DSt → Option (D × DSt)
noncomputable abbrev DP := DSt → Option D
noncomputable abbrev DA := DSt → Option (List D × DSt)
noncomputable abbrev DT := DSt → Option (Bool × DSt)
inductive Out where
 | nx (σ : DSt) | rt (d : D) (σ : DSt) | bk (σ : DSt) | ct (σ : DSt)
noncomputable abbrev DS := DSt → Option Out
noncomputable def rE (K : PySem.W.Frag) (c : DE) : TE := fun σ H Q => ∃ F R σD d σD', Rel K F H σD σ R ∧ c σD = some (d, σD') ∧ ∀ F' H' v, Ext F H F' H' → Rel K F' H' σD' σ ((d, v) :: R) → Q v H'
noncomputable def rB (K : PySem.W.Frag) (c : DP) : TE := fun σ H Q => ∃ F R σD d, Rel K F H σD σ R ∧ c σD = some d ∧ ∀ F' H' v, Grow F H F' H' → Bor K F' H' d v → Q v H'
noncomputable def rA (K : PySem.W.Frag) (c : DA) : TA := fun σ H Q => ∃ F R σD xs σD', Rel K F H σD σ R ∧ c σD = some (xs, σD') ∧ ∀ F' H' vs, Ext F H F' H' → xs.length = vs.length → Rel K F' H' σD' σ (xs.zip vs ++ R) → Q vs H'
noncomputable def rT (K : PySem.W.Frag) (c : DT) : TT := fun σ H Q => ∃ F R σD b σD', Rel K F H σD σ R ∧ c σD = some (b, σD') ∧ ∀ F' H', Ext F H F' H' → Rel K F' H' σD' σ R → Q b H'
noncomputable def Kp (W : List Nat) (σ σ' : St) : Prop := ∀ k, k ∉ W → σ'[k]? = σ[k]?
noncomputable def Th (K : PySem.W.Frag) (En : Ends) (R : Ro) (F : Addr → Prop) (H : Hp) (σ : St) : Out → Prop
 | .nx σD => Rel K F H σD σ R → En.nx σ H
 | .bk σD => Rel K F H σD σ R → En.bk σ H
 | .ct σD => Rel K F H σD σ R → En.ct σ H
 | .rt d σD => ∀ v, Rel K F H σD σ ((d, v) :: R) → En.rt v H
noncomputable def rS (K : PySem.W.Frag) (c : DS) (W : List Nat) : TS := fun En σ H => ∃ F R σD o, Rel K F H σD σ R ∧ c σD = some o ∧ ∀ F' H' σ', Ext F H F' H' → Kp W σ σ' → Th K En R F' H' σ' o
noncomputable def QE (X : Cx) (e : Expr) (c : DE) : Prop := PE X e (rE X.K c)
noncomputable def QB (X : Cx) (e : Expr) (c : DP) : Prop := PE X e (rB X.K c)
noncomputable def QA (X : Cx) (es : List Expr) (c : DA) : Prop := PA X es (rA X.K c)
noncomputable def QT (X : Cx) (e : Expr) (c : DT) : Prop := PT X e (rT X.K c)
noncomputable def QW (X : Cx) (e : Expr) (c : DT) : Prop := PW X e (rT X.K c)
noncomputable def QS (X : Cx) (st : Stmt) (c : DS) (W : List Nat) : Prop := PS X st (rS X.K c W)
noncomputable def QSs (X : Cx) (sts : List Stmt) (c : DS) (W : List Nat) : Prop := PSs X sts (rS X.K c W)
theorem Kp.refl {W : List Nat} {σ : St} : Kp W σ σ := fun _ _ => rfl
theorem Kp.trans {W : List Nat} {σ σ1 σ2 : St} (a : Kp W σ σ1) (b : Kp W σ1 σ2) : Kp W σ σ2 := fun k h => (b k h).trans (a k h)
theorem Kp.mono {W W' : List Nat} {σ σ' : St} (a : Kp W σ σ') (h : ∀ k ∈ W, k ∈ W') : Kp W' σ σ' := fun k hk => a k fun z => hk (h k z)
theorem Kp.set {σ : St} {i : Nat} {o : Option V} : Kp [i] σ (σ.set i o) := fun k hk => by
 rw [List.getElem?_set_ne]; intro e; exact hk (by simp [e])
noncomputable def dS (p : DP) : DE := fun σ => (p σ).bind fun d => match d.sc with | some _ => some (d, σ) | none => none
noncomputable def dget (σ : DSt) (i : Nat) : Option D := match σ[i]? with | some (some d) => some d | _ => none
theorem dget_some {σ : DSt} {i : Nat} {d : D} (h : dget σ i = some d) : σ[i]? = some (some d) := by
 unfold dget at h
 split at h
 ·cases h; assumption
 ·cases h
noncomputable def pV (i : Nat) : DP := fun σ => dget σ i
noncomputable def pC (d : D) : DP := fun _ => some d
noncomputable def dCp (i : Nat) : DE := fun σ => (dget σ i).map fun d => (d.fz, σ.set i (some d.fz))
noncomputable def dMv (i : Nat) : DE := fun σ => (dget σ i).map fun d => (d, σ.set i none)
section
variable {X : Cx} {e a b : Expr} {es : List Expr} {p q : DP} {c c' : DE} {pos : Pos}
theorem qe_s (h : QB X e p) : QE X e (dS p) := PE_imp h fun σ H Q hq0 => by
 obtain ⟨F, R, σD, d, σD', r, ec, k⟩ := hq0
 unfold dS at ec
 rcases hp : p σD with _ | x
 ·rw [hp] at ec; cases ec
 ·rw [hp] at ec
  simp only [bind_some] at ec
  rcases hs : x.sc with _ | w
  ·rw [hs] at ec; cases ec
  ·rw [hs] at ec; cases ec
   refine ⟨F, R, σD, d, r, hp, fun F' H' v g b => k F' H' v g.x ?_⟩
   rw [b.sc hs]; exact (r.grow g).scal hs
theorem qb_v (i : Nat) {x : Str} {pos : Pos} (hN : X.N[i]? = some x := by rfl) (hv : Vis X.env.scope x := by first | exact Or.inl rfl | exact Or.inr (Or.inl rfl) | exact Or.inr (Or.inr rfl)) (hd : (x == ("__debug__" : Str)) = false := by decide)
  (hcd : (x == ("__classdict__" : Str)) = false := by decide) : QB X (.Name x pos) (pV i) := PE_imp (pe_var hN hv hd hcd) fun σ H Q hq0 => by
 obtain ⟨F, R, σD, d, r, ec, k⟩ := hq0
 obtain ⟨v, hv, b⟩ := r.get (dget_some ec)
 exact ⟨v, hv, k F H v Grow.refl b⟩
theorem qb_int {i : Int} {j pos} : QB X (.Constant (.int i) j pos) (pC (.int i)) := PE_imp pe_int fun σ H Q hq0 => by
 obtain ⟨F, R, σD, d, r, ec, k⟩ := hq0
 cases ec; exact k F H _ Grow.refl ⟨[], Ow.of_sc rfl⟩
theorem qb_bl {i : Bool} {j pos} : QB X (.Constant (.bool i) j pos) (pC (.bl i)) := PE_imp pe_bl fun σ H Q hq0 => by
 obtain ⟨F, R, σD, d, r, ec, k⟩ := hq0
 cases ec; exact k F H _ Grow.refl ⟨[], Ow.of_sc rfl⟩
theorem qb_str {x : Str} {j pos} : QB X (.Constant (.str x) j pos) (pC (.str x)) := PE_imp pe_str fun σ H Q hq0 => by
 obtain ⟨F, R, σD, d, r, ec, k⟩ := hq0
 cases ec; exact k F H _ Grow.refl ⟨[], Ow.of_sc rfl⟩
theorem map_pair {α β γ : Type} {o : Option α} {f : α → β × γ} {d : β} {s : γ} (h : o.map f = some (d, s)) : ∃ x, o = some x ∧ f x = (d, s) := by
 cases o with
 | none => cases h
 | some x => exact ⟨x, rfl, Option.some.inj h⟩
theorem qe_cp (i : Nat) {x : Str} {pos : Pos} (hN : X.N[i]? = some x := by rfl) (hv : Vis X.env.scope x := by first | exact Or.inl rfl | exact Or.inr (Or.inl rfl) | exact Or.inr (Or.inr rfl)) (hd : (x == ("__debug__" : Str)) = false := by decide)
  (hcd : (x == ("__classdict__" : Str)) = false := by decide) : QE X (.Name x pos) (dCp i) := PE_imp (pe_var hN hv hd hcd) fun σ H Q hq0 => by
 obtain ⟨F, R, σD, d, σD', r, ec, k⟩ := hq0
 obtain ⟨d0, e0, e1⟩ := map_pair ec
 cases e1
 obtain ⟨v, hv, r1⟩ := r.take (dget_some e0)
 obtain ⟨F', x, r2, o⟩ := r1.freeze
 have r3 := (r2.push o).put hv
 rw [List.set_set] at r3
 exact ⟨v, hv, k F' H v x r3⟩
theorem qe_mv (i : Nat) {x : Str} {pos : Pos} (hN : X.N[i]? = some x := by rfl) (hv : Vis X.env.scope x := by first | exact Or.inl rfl | exact Or.inr (Or.inl rfl) | exact Or.inr (Or.inr rfl)) (hd : (x == ("__debug__" : Str)) = false := by decide)
  (hcd : (x == ("__classdict__" : Str)) = false := by decide) : QE X (.Name x pos) (dMv i) := PE_imp (pe_var hN hv hd hcd) fun σ H Q hq0 => by
 obtain ⟨F, R, σD, d, σD', r, ec, k⟩ := hq0
 obtain ⟨d0, e0, e1⟩ := map_pair ec
 cases e1
 obtain ⟨v, hv, r1⟩ := r.take (dget_some e0)
 exact ⟨v, hv, k F H v Ext.refl r1⟩
structure OpS (X : Cx) (f : Value → Value → Sem Value) (g : D → D → Option D) : Prop where
 run : OpR X f (fun x y H Q => ∃ F dx dy d w, Bor X.K F H dx x ∧ Bor X.K F H dy y ∧ g dx dy = some d ∧ d.sc = some w ∧ Q w H)
 sc : ∀ x y d, g x y = some d → ∃ w, d.sc = some w
noncomputable def dOp (g : D → D → Option D) (c c' : DE) : DE := fun σ => (c σ).bind fun p => (c' p.2).bind fun q => (g p.1 q.1).map fun d => (d, q.2)
noncomputable def pOp (g : D → D → Option D) (p q : DP) : DP := fun σ => (p σ).bind fun x => (q σ).bind fun y => g x y
theorem dOp_some {g : D → D → Option D} {σ σ' : DSt} {d : D} (h : dOp g c c' σ = some (d, σ')) : ∃ x y σ1, c σ = some (x, σ1) ∧ c' σ1 = some (y, σ') ∧ g x y = some d := by
 unfold dOp at h
 rcases h1 : c σ with _ | ⟨x, σ1⟩
 ·rw [h1] at h; cases h
 ·rw [h1] at h; simp only [bind_some] at h
  rcases h2 : c' σ1 with _ | ⟨y, σ2⟩
  ·rw [h2] at h; cases h
  ·rw [h2] at h; simp only [bind_some] at h
   obtain ⟨z, e, e2⟩ := map_pair h
   cases e2
   exact ⟨x, y, σ1, rfl, h2, e⟩
theorem pOp_some {g : D → D → Option D} {σ : DSt} {d : D} (h : pOp g p q σ = some d) : ∃ x y, p σ = some x ∧ q σ = some y ∧ g x y = some d := by
 unfold pOp at h
 rcases h1 : p σ with _ | x
 ·rw [h1] at h; cases h
 ·rw [h1] at h; simp only [bind_some] at h
  rcases h2 : q σ with _ | y
  ·rw [h2] at h; cases h
  ·rw [h2] at h; simp only [bind_some] at h
   exact ⟨x, y, rfl, rfl, h⟩
theorem rOp {f : Value → Value → Sem Value} {g : D → D → Option D} (o : OpS X f g) {σ : St} {H : Hp} {Q : VK} (h : rE X.K (dOp g c c') σ H Q) :
  tOp (fun x y H Q => ∃ F dx dy d w, Bor X.K F H dx x ∧ Bor X.K F H dy y ∧ g dx dy = some d ∧ d.sc = some w ∧ Q w H) (rE X.K c) (rE X.K c') σ H Q := by
 obtain ⟨F, R, σD, d, σD', r, ec, k⟩ := h
 obtain ⟨x, y, σ1, e1, e2, eg⟩ := dOp_some ec
 obtain ⟨w, hw⟩ := o.sc _ _ _ eg
 refine ⟨F, R, σD, x, σ1, r, e1, fun F1 H1 v x1 r1 => ?_⟩
 refine ⟨F1, _, σ1, y, σD', r1, e2, fun F2 H2 u x2 r2 => ?_⟩
 refine ⟨F2, x, y, d, w, r2.bor (by simp), r2.bor (by simp), eg, hw, k F2 H2 w (x1.trans x2) ?_⟩
 exact (r2.pop.pop).scal hw
theorem rOpB {f : Value → Value → Sem Value} {g : D → D → Option D} (o : OpS X f g) {σ : St} {H : Hp} {Q : VK} (h : rB X.K (pOp g p q) σ H Q) :
  tOp (fun x y H Q => ∃ F dx dy d w, Bor X.K F H dx x ∧ Bor X.K F H dy y ∧ g dx dy = some d ∧ d.sc = some w ∧ Q w H) (rB X.K p) (rB X.K q) σ H Q := by
 obtain ⟨F, R, σD, d, r, ec, k⟩ := h
 obtain ⟨x, y, e1, e2, eg⟩ := pOp_some ec
 obtain ⟨w, hw⟩ := o.sc _ _ _ eg
 refine ⟨F, R, σD, x, r, e1, fun F1 H1 v g1 b1 => ?_⟩
 refine ⟨F1, R, σD, y, r.grow g1, e2, fun F2 H2 u g2 b2 => ?_⟩
 exact ⟨F2, x, y, d, w, b1.grow g2, b2, eg, hw, k F2 H2 w (g1.trans g2) ⟨[], Ow.of_sc hw⟩⟩
theorem qe_op {op : Operator} {g : D → D → Option D} (o : OpS X (binaryOp op) g) (ha : QE X a c) (hb : QE X b c') : QE X (.BinOp a op b pos) (dOp g c c') :=
 PE_imp (pe_op o.run ha hb) fun _ _ _ h => rOp o h
theorem qb_op {op : Operator} {g : D → D → Option D} (o : OpS X (binaryOp op) g) (ha : QB X a p) (hb : QB X b q) : QB X (.BinOp a op b pos) (pOp g p q) :=
 PE_imp (pe_op o.run ha hb) fun _ _ _ h => rOpB o h
theorem qe_cmp {op : CmpOp} {g : D → D → Option D} (o : OpS X (compareOp op) g) (ha : QE X a c) (hb : QE X b c') (hm : behindInMarks op b = false) : QE X (.Compare a [op] [b] pos) (dOp g c c') :=
 PE_imp (pe_cmpR o.run ha hb hm) fun _ _ _ h => rOp o h
theorem qb_cmp {op : CmpOp} {g : D → D → Option D} (o : OpS X (compareOp op) g) (ha : QB X a p) (hb : QB X b q) (hm : behindInMarks op b = false) : QB X (.Compare a [op] [b] pos) (pOp g p q) :=
 PE_imp (pe_cmpR o.run ha hb hm) fun _ _ _ h => rOpB o h
noncomputable def gI (C : Int → Int → Bool) (f : Int → Int → Int) : D → D → Option D
 | .int i, .int j => if C i j = true then some (.int (f i j)) else none
 | _, _ => none
noncomputable def gI0 (f : Int → Int → Int) : D → D → Option D
 | .int i, .int j => some (.int (f i j))
 | _, _ => none
noncomputable def gB0 (f : Int → Int → Bool) : D → D → Option D
 | .int i, .int j => some (.bl (f i j))
 | _, _ => none
theorem opS_I {f : Value → Value → Sem Value} {C : Int → Int → Prop} {Cb : Int → Int → Bool} {g : Int → Int → Int} (h : OpR X f (rI C fun i j => .int (g i j))) (hC : ∀ i j, Cb i j = true → C i j) : OpS X f (gI Cb g) := by
 refine ⟨OpR_imp h fun x y H Q ⟨F, dx, dy, d, w, b1, b2, eg, hw, q⟩ => ?_, fun x y d h => ?_⟩
 ·unfold gI at eg
  split at eg
  ·split at eg
   ·cases eg; cases hw
    exact ⟨_, _, b1.int, b2.int, hC _ _ (by assumption), q⟩
   ·cases eg
  ·cases eg
 ·unfold gI at h
  split at h
  ·split at h
   ·cases h; exact ⟨_, rfl⟩
   ·cases h
  ·cases h
theorem opS_I0 {f : Value → Value → Sem Value} {g : Int → Int → Int} (h : OpR X f (rI0 fun i j => .int (g i j))) : OpS X f (gI0 g) := by
 refine ⟨OpR_imp h fun x y H Q ⟨F, dx, dy, d, w, b1, b2, eg, hw, q⟩ => ?_, fun x y d h => ?_⟩
 ·unfold gI0 at eg
  split at eg
  ·cases eg; cases hw
   exact ⟨_, _, b1.int, b2.int, q⟩
  ·cases eg
 ·unfold gI0 at h
  split at h
  ·cases h; exact ⟨_, rfl⟩
  ·cases h
theorem opS_B0 {f : Value → Value → Sem Value} {g : Int → Int → Bool} (h : OpR X f (rI0 fun i j => .bl (g i j))) : OpS X f (gB0 g) := by
 refine ⟨OpR_imp h fun x y H Q ⟨F, dx, dy, d, w, b1, b2, eg, hw, q⟩ => ?_, fun x y d h => ?_⟩
 ·unfold gB0 at eg
  split at eg
  ·cases eg; cases hw
   exact ⟨_, _, b1.int, b2.int, q⟩
  ·cases eg
 ·unfold gB0 at h
  split at h
  ·cases h; exact ⟨_, rfl⟩
  ·cases h
theorem o_add : OpS X (binaryOp .Add) (gI0 fun i j => i + j) := opS_I0 op_add
theorem o_sub : OpS X (binaryOp .Sub) (gI0 fun i j => i - j) := opS_I0 op_sub
theorem o_and : OpS X (binaryOp .BitAnd) (gI0 Builtin.bitAnd) := opS_I0 op_and
theorem o_or : OpS X (binaryOp .BitOr) (gI0 Builtin.bitOr) := opS_I0 op_or
theorem o_mod : OpS X (binaryOp .Mod) (gI (fun _ j => decide (0 < j)) fun i j => i % j) := opS_I op_mod fun i j h => by simpa using h
theorem o_pow : OpS X (binaryOp .Pow) (gI (fun i j => decide (0 ≤ j ∧ j ≤ 1000000 ∧ i.natAbs < 2 ^ 64)) fun i j => i ^ j.toNat) := opS_I op_pow fun i j h => by simpa [CPow] using h
theorem o_shl : OpS X (binaryOp .LShift) (gI (fun i j => decide (0 ≤ j ∧ j ≤ 1000000 ∧ i.natAbs < 2 ^ 64)) fun i j => i * 2 ^ j.toNat) := opS_I op_shl fun i j h => by simpa [CPow] using h
theorem o_shr : OpS X (binaryOp .RShift) (gI (fun _ j => decide (0 ≤ j)) fun i j => i / 2 ^ j.toNat) := opS_I op_shr fun i j h => by simpa using h
theorem o_lt : OpS X (compareOp .Lt) (gB0 fun i j => decide (i < j)) := opS_B0 op_lt
theorem o_gt : OpS X (compareOp .Gt) (gB0 fun i j => decide (j < i)) := opS_B0 op_gt
theorem o_ge : OpS X (compareOp .GtE) (gB0 fun i j => decide (j ≤ i)) := opS_B0 op_ge
noncomputable def aNil : DA := fun σ => some ([], σ)
noncomputable def aCons (c : DE) (ca : DA) : DA := fun σ => (c σ).bind fun p => (ca p.2).map fun q => (p.1 :: q.1, q.2)
theorem qa_nil : QA X [] aNil := PA_imp pa_nil fun σ H Q hq0 => by
 obtain ⟨F, R, σD, xs, σD', r, ec, k⟩ := hq0
 cases ec; exact k F H [] Ext.refl rfl r
theorem qa_cons {ca : DA} (ha : QE X e c) (hr : QA X es ca) (hs : starEach (e :: es) X.env = (false, eval e X.env) :: starEach es X.env := by rfl) : QA X (e :: es) (aCons c ca) := PA_imp (pa_cons ha hr hs) fun σ H Q hq0 => by
 obtain ⟨F, R, σD, xs, σD', r, ec, k⟩ := hq0
 unfold aCons at ec
 rcases h1 : c σD with _ | ⟨x, σ1⟩
 ·rw [h1] at ec; cases ec
 ·rw [h1] at ec; simp only [bind_some] at ec
  obtain ⟨⟨ys, σ2⟩, e2, e3⟩ := map_pair ec
  cases e3
  refine ⟨F, R, σD, x, σ1, r, h1, fun F1 H1 v x1 r1 => ?_⟩
  refine ⟨F1, _, σ1, ys, σ2, r1, e2, fun F2 H2 vs x2 hl r2 => ?_⟩
  refine k F2 H2 (v :: vs) (x1.trans x2) (by simp [hl]) (r2.perm ?_)
  exact List.perm_middle
noncomputable def dLst (ca : DA) : DE := fun σ => (ca σ).bind fun p => if p.1.length ≤ sizeLine then some (.lst true p.1, p.2) else none
noncomputable def dTup (ca : DA) : DE := fun σ => (ca σ).bind fun p => if p.1.length ≤ sizeLine then some (.tup p.1, p.2) else none
theorem qe_lst {ca : DA} (h : QA X es ca) : QE X (.List es pos) (dLst ca) := PE_imp (pe_lst h) fun σ H Q hq0 => by
 obtain ⟨F, R, σD, d, σD', r, ec, k⟩ := hq0
 unfold dLst at ec
 rcases h1 : ca σD with _ | ⟨xs, σ1⟩
 ·rw [h1] at ec; cases ec
 ·rw [h1] at ec; simp only [bind_some] at ec
  split at ec
  ·rename_i hz
   cases ec
   refine ⟨F, R, σD, xs, _, r, h1, fun F1 H1 vs x1 hl r1 => ⟨by rw [← hl]; exact hz, fun p hp => ?_⟩⟩
   obtain ⟨r2, x2⟩ := r1.layL hl hp
   exact k F1 _ _ (x1.trans x2) r2
  ·cases ec
theorem qe_tup {ca : DA} {x1} (h : QA X es ca) : QE X (.Tuple es x1 pos) (dTup ca) := PE_imp (pe_tup h) fun σ H Q hq0 => by
 obtain ⟨F, R, σD, d, σD', r, ec, k⟩ := hq0
 unfold dTup at ec
 rcases h1 : ca σD with _ | ⟨xs, σ1⟩
 ·rw [h1] at ec; cases ec
 ·rw [h1] at ec; simp only [bind_some] at ec
  split at ec
  ·rename_i hz
   cases ec
   refine ⟨F, R, σD, xs, _, r, h1, fun F1 H1 vs x1 hl r1 => ⟨by rw [← hl]; exact hz, fun p hp => ?_⟩⟩
   obtain ⟨F2, x2, r2⟩ := r1.layT hl hp
   exact k F2 _ _ (x1.trans x2) r2
  ·cases ec
end
end DD
namespace DD
open PySem PySem.Spec PyProof.Rows L2
section
variable {K : PySem.W.Frag} {F F' : Addr → Prop} {H H' : Hp} {d x : D} {v w : V} {L : List Addr} {R : Ro} {σD : DSt} {σ : St} {xs : List D} {vs : List V}
theorem OwL.length : ∀ {xs : List D} {vs : List V} {L : List Addr}, OwL K F H xs vs L → vs.length = xs.length := fun h => h.toP.1.symm
theorem OwL.kid : ∀ {xs : List D} {vs : List V} {L : List Addr} {j : Nat}, OwL K F H xs vs L → xs[j]? = some x → ∃ w La Lx Lb, vs[j]? = some w ∧ L = La ++ Lx ++ Lb ∧ Ow K F H x w Lx ∧
  ∀ (F' : Addr → Prop) (H' : Hp) (x' : D) (Lx' : List Addr), Ext F H F' H' → (∀ a ∈ La ++ Lb, H' a = H a) → Ow K F' H' x' w Lx' → OwL K F' H' (xs.set j x') vs (La ++ Lx' ++ Lb)
 | [], _, _, _, _, e => by simp at e
 | y :: ys, _, _, 0, h, e => by
  simp only [OwL] at h
  obtain ⟨u, ws, L1, L2, rfl, h1, h2, rfl⟩ := h
  simp at e; subst e
  refine ⟨u, [], L1, L2, rfl, rfl, h1, fun F' H' x' Lx' x k o => ?_⟩
  simp only [List.set_cons_zero, OwL]
  exact ⟨u, ws, Lx', L2, rfl, o, h2.mono x fun a ha => k a (by simp [ha]), rfl⟩
 | y :: ys, _, _, j + 1, h, e => by
  simp only [OwL] at h
  obtain ⟨u, ws, L1, L2, rfl, h1, h2, rfl⟩ := h
  obtain ⟨w, La, Lx, Lb, e1, rfl, o, k⟩ := OwL.kid (j := j) h2 (by simpa using e)
  refine ⟨w, L1 ++ La, Lx, Lb, by simpa using e1, by simp, o, fun F' H' x' Lx' x kk o' => ?_⟩
  simp only [List.set_cons_succ, OwL]
  exact ⟨u, ws, L1, La ++ Lx' ++ Lb, rfl, h1.mono x fun a ha => kk a (by simp [ha]), k F' H' x' Lx' x (fun a ha => kk a (by simp at ha ⊢; rcases ha with ha | ha <;> simp [ha])) o', by simp⟩
theorem OwL.get (h : OwL K F H xs vs L) {j : Nat} (e : xs[j]? = some x) : ∃ w, vs[j]? = some w ∧ Bor K F H x w := by
 obtain ⟨w, _, Lx, _, e1, _, o, _⟩ := h.kid e
 exact ⟨w, e1, Lx, o⟩
theorem OwL.at (h : OwL K F H xs vs L) {i : Int} (e : atI xs i = some x) : ∃ w, atI vs i = some w ∧ Bor K F H x w := by
 unfold atI at e ⊢
 rw [h.length]
 rcases hj : ixN xs.length i with _ | j
 ·rw [hj] at e; cases e
 ·rw [hj] at e; exact h.get e
theorem Bor.lst {o : Bool} (b : Bor K F H (.lst o xs) v) : ∃ a vs, v = .ref a ∧ SqL K H a vs ∧ ∃ L, OwL K F H xs vs L := by
 obtain ⟨L, h⟩ := b
 cases o
 ·simp only [Ow] at h
  obtain ⟨a, vs, rfl, f, r, _⟩ := h
  exact ⟨a, vs, rfl, f.sq, _, r⟩
 ·simp only [Ow] at h
  obtain ⟨a, vs, L', rfl, e, r, _⟩ := h
  exact ⟨a, vs, rfl, .inl (.inl e), _, r⟩
theorem Bor.tup (b : Bor K F H (.tup xs) v) : ∃ a vs, v = .ref a ∧ SqT K H a vs ∧ ∃ L, OwL K F H xs vs L := by
 obtain ⟨L, h⟩ := b
 simp only [Ow] at h
 obtain ⟨a, vs, rfl, f, r⟩ := h
 exact ⟨a, vs, rfl, f.sq, _, r⟩
noncomputable def ixD : D → D → Option D
 | .lst _ xs, .int i => atI xs i
 | .tup xs, .int i => atI xs i
 | .str z, .int i => if z.length ≤ sizeLine then (atI z.cps.toList i).map fun c => .str ⟨#[c]⟩ else none
 | _, _ => none
end
section
variable {X : Cx} {e a b : Expr} {es : List Expr} {p q : DP} {c c' : DE} {pos : Pos}
theorem rIx_of {F : Addr → Prop} {H : Hp} {dx dy d : D} {x y : V} {Q : VK} (b1 : Bor X.K F H dx x) (b2 : Bor X.K F H dy y) (e : ixD dx dy = some d) (k : ∀ v, Bor X.K F H d v → Q v H) : rIx X.K x y H Q := by
 unfold ixD at e
 split at e
 ·obtain ⟨a, vs, rfl, s, L, r⟩ := b1.lst
  obtain ⟨w, e1, bw⟩ := r.at e
  exact .inl ⟨a, vs, _, w, rfl, b2.int, s, e1, k w bw⟩
 ·obtain ⟨a, vs, rfl, s, L, r⟩ := b1.tup
  obtain ⟨w, e1, bw⟩ := r.at e
  exact .inr (.inl ⟨a, vs, _, w, rfl, b2.int, s, e1, k w bw⟩)
 ·split at e
  ·rename_i z i hz
   rcases h : atI z.cps.toList i with _ | ch
   ·rw [h] at e; cases e
   ·rw [h] at e; cases e
    exact .inr (.inr ⟨z, i, ch, b1.str, b2.int, hz, h, k _ ⟨[], Ow.of_sc rfl⟩⟩)
  ·cases e
 ·cases e
theorem qb_ix (ha : QB X a p) (hb : QB X b q) (hs : PlainIx b := by intro _ _; rfl) : QB X (.Subscript a b pos) (pOp ixD p q) := PE_imp (pe_ix ix_seq ha hb hs) fun σ H Q hq0 => by
 obtain ⟨F, R, σD, d, r, ec, k⟩ := hq0
 obtain ⟨x, y, e1, e2, eg⟩ := pOp_some ec
 refine ⟨F, R, σD, x, r, e1, fun F1 H1 v g1 b1 => ?_⟩
 refine ⟨F1, R, σD, y, r.grow g1, e2, fun F2 H2 u g2 b2 => ?_⟩
 exact rIx_of (b1.grow g2) b2 eg fun v bv => k F2 H2 v (g1.trans g2) bv
noncomputable def dIx (c c' : DE) : DE := fun σ => (c σ).bind fun p => (c' p.2).bind fun q => (ixD p.1 q.1).map fun d => (d, q.2)
end
end DD
namespace DD
open PySem PySem.Spec PyProof.Rows L2
noncomputable def dTest (c : DE) : DT := fun σ => (c σ).bind fun p => match p.1 with | .bl b => some (b, p.2) | _ => none
noncomputable def tAndD (t u : DT) : DT := fun σ => (t σ).bind fun p => if p.1 = true then u p.2 else some (false, p.2)
noncomputable def tOrD (t u : DT) : DT := fun σ => (t σ).bind fun p => if p.1 = true then some (true, p.2) else u p.2
noncomputable def tNotD (t : DT) : DT := fun σ => (t σ).map fun p => (!p.1, p.2)
section
variable {X : Cx} {e a b : Expr} {es rest : List Expr} {p q : DP} {c c' : DE} {t u : DT} {pos : Pos}
theorem dTest_some {σ σ' : DSt} {k : Bool} (h : dTest c σ = some (k, σ')) : c σ = some (.bl k, σ') := by
 unfold dTest at h
 rcases h1 : c σ with _ | ⟨x, σ1⟩
 ·rw [h1] at h; cases h
 ·rw [h1] at h; simp only [bind_some] at h
  split at h
  ·cases h; rfl
  ·cases h
theorem qt_e (h : QE X e c) (he : ∀ whole, isTrue e X.env whole = (do let v ← whole; standAt e.pos; holding [v] (truthy v)) := by intro _; rfl) : QT X e (dTest c) := PT_imp (pt_val h he) fun σ H Q hq0 => by
 obtain ⟨F, R, σD, k, σD', r, ec, kk⟩ := hq0
 refine ⟨F, R, σD, _, σD', r, dTest_some ec, fun F' H' v x r' => ⟨k, (r'.bor (by simp)).bl, kk F' H' x r'.pop⟩⟩
theorem qt_cmp {op : CmpOp} {g : D → D → Option D} (o : OpS X (compareOp op) g) (ha : QE X a c) (hb : QE X b c') (hm : behindInMarks op b = false) : QT X (.Compare a [op] [b] pos) (dTest (dOp g c c')) :=
 PT_imp (pt_cmpR o.run ha hb hm) fun σ H Q hq0 => by
  obtain ⟨F, R, σD, k, σD', r, ec, kk⟩ := hq0
  show tOp _ _ _ σ H _
  exact rOp o ⟨F, R, σD, _, σD', r, dTest_some ec, fun F' H' v x r' => ⟨k, (r'.bor (by simp)).bl, kk F' H' x r'.pop⟩⟩
theorem qt_not (h : QT X e t) : QT X (.UnaryOp .Not e pos) (tNotD t) := PT_imp (pt_not h) fun σ H Q hq0 => by
 obtain ⟨F, R, σD, k, σD', r, ec, kk⟩ := hq0
 unfold tNotD at ec
 obtain ⟨⟨b, σ1⟩, e1, e2⟩ := map_pair ec
 cases e2
 exact ⟨F, R, σD, b, σ1, r, e1, fun F' H' x r' => kk F' H' x r'⟩
theorem qw_t (h : QW X e t) : QT X e t := h.pt
theorem qw_and1 (h : QT X a t) : QW X (.BoolOp .And [a] pos) t := pw_and1 h
theorem qw_or1 (h : QT X a t) : QW X (.BoolOp .Or [a] pos) t := pw_or1 h
theorem qw_and (ha : QT X a t) (hb : QW X (.BoolOp .And (b :: rest) pos) u) : QW X (.BoolOp .And (a :: b :: rest) pos) (tAndD t u) := PW_imp (pw_and ha hb) fun σ H Q hq0 => by
 obtain ⟨F, R, σD, k, σD', r, ec, kk⟩ := hq0
 unfold tAndD at ec
 rcases h1 : t σD with _ | ⟨x, σ1⟩
 ·rw [h1] at ec; cases ec
 ·rw [h1] at ec; simp only [bind_some] at ec
  refine ⟨F, R, σD, x, σ1, r, h1, fun F' H' x1 r' => ?_⟩
  cases x
  ·simp only [Bool.false_eq_true, if_false] at ec ⊢
   cases ec
   exact kk F' H' x1 r'
  ·simp only [if_true] at ec ⊢
   exact ⟨F', R, σ1, k, σD', r', ec, fun F2 H2 x2 r2 => kk F2 H2 (x1.trans x2) r2⟩
theorem qw_or (ha : QT X a t) (hb : QW X (.BoolOp .Or (b :: rest) pos) u) : QW X (.BoolOp .Or (a :: b :: rest) pos) (tOrD t u) := PW_imp (pw_or ha hb) fun σ H Q hq0 => by
 obtain ⟨F, R, σD, k, σD', r, ec, kk⟩ := hq0
 unfold tOrD at ec
 rcases h1 : t σD with _ | ⟨x, σ1⟩
 ·rw [h1] at ec; cases ec
 ·rw [h1] at ec; simp only [bind_some] at ec
  refine ⟨F, R, σD, x, σ1, r, h1, fun F' H' x1 r' => ?_⟩
  cases x
  ·simp only [Bool.false_eq_true, if_false] at ec ⊢
   exact ⟨F', R, σ1, k, σD', r', ec, fun F2 H2 x2 r2 => kk F2 H2 (x1.trans x2) r2⟩
  ·simp only [if_true] at ec ⊢
   cases ec
   exact kk F' H' x1 r'
end
noncomputable def sSkip : DS := fun σ => some (.nx σ)
noncomputable def sSeq (c d : DS) : DS := fun σ => (c σ).bind fun o => match o with | .nx σ' => d σ' | o => some o
noncomputable def sSet (i : Nat) (c : DE) : DS := fun σ => (c σ).bind fun p => if i < p.2.length then some (.nx (p.2.set i (some p.1))) else none
noncomputable def sIf (t : DT) (c d : DS) : DS := fun σ => (t σ).bind fun p => if p.1 = true then c p.2 else d p.2
noncomputable def sRet (c : DE) : DS := fun σ => (c σ).map fun p => .rt p.1 p.2
noncomputable def sDrop (c : DE) : DS := fun σ => (c σ).map fun p => .nx p.2
noncomputable def sNone : DS := fun _ => none
section
variable {X : Cx} {e a b : Expr} {st : Stmt} {sts : List Stmt} {c c' : DE} {s s' : DS} {t u : DT} {pos : Pos} {W W' : List Nat}
theorem qss_nil : QSs X [] sSkip [] := PSs_imp pss_nil fun En σ H hq0 => by
 obtain ⟨F, R, σD, o, r, ec, k⟩ := hq0
 cases ec; exact k F H σ Ext.refl Kp.refl r
theorem qss_cons (h1 : QS X st s W) (h2 : QSs X sts s' W') : QSs X (st :: sts) (sSeq s s') (W ++ W') := PSs_imp (pss_cons h1 h2) fun En σ H hq0 => by
 obtain ⟨F, R, σD, o, r, ec, k⟩ := hq0
 unfold sSeq at ec
 rcases h : s σD with _ | o1
 ·rw [h] at ec; cases ec
 ·rw [h] at ec; simp only [bind_some] at ec
  refine ⟨F, R, σD, o1, r, h, fun F1 H1 σ1 x1 kp1 => ?_⟩
  have kp1' : Kp (W ++ W') σ σ1 := kp1.mono fun k hk => by simp [hk]
  cases o1 with
  | nx σ2 =>
   intro r1
   refine ⟨F1, R, σ2, o, r1, ec, fun F2 H2 σ3 x2 kp2 => ?_⟩
   exact k F2 H2 σ3 (x1.trans x2) (kp1'.trans (kp2.mono fun k hk => by simp [hk]))
  | bk σ2 => cases ec; exact k F1 H1 σ1 x1 kp1'
  | ct σ2 => cases ec; exact k F1 H1 σ1 x1 kp1'
  | rt d σ2 => cases ec; exact k F1 H1 σ1 x1 kp1'
theorem qss_one (h1 : QS X st s W) : QSs X [st] s W := pss_one h1
theorem qss_never : QSs X sts sNone [] := PSs_imp pss_never fun En σ H hq0 => by obtain ⟨F, R, σD, o, r, ec, k⟩ := hq0; cases ec
theorem qs_set (i : Nat) {x : Str} {pos' : Pos} (hN : X.N.Nodup) (he : QE X e c) (hi : X.N[i]? = some x := by rfl) (hx : Loc X.env.scope x := by first | exact Or.inl rfl | exact Or.inr rfl) (hs : swapsWith e (some (.Name x pos')) pos.line X.env = pure false := by rfl) (hf : X.fn x = true ∨ X.env.scope.names.lookup x = some .local := by first | exact .inl rfl | exact .inr rfl | assumption) :
  QS X (.Assign [.Name x pos'] e pos) (sSet i c) [i] := PS_imp (ps_set hN hi hx he hs hf) fun En σ H hq0 => by
 obtain ⟨F, R, σD, o, r, ec, k⟩ := hq0
 unfold sSet at ec
 rcases h : c σD with _ | ⟨d, σ1⟩
 ·rw [h] at ec; cases ec
 ·rw [h] at ec; simp only [bind_some] at ec
  split at ec
  ·rename_i hl
   cases ec
   refine ⟨F, R, σD, d, σ1, r, h, fun F1 H1 v x1 r1 => ?_⟩
   exact k F1 H1 _ x1 Kp.set (r1.store (by rw [← r1.mt.length]; exact hl))
  ·cases ec
theorem qs_if {as bs : List Stmt} (ht : QT X e t) (ha : QSs X as s W) (hb : QSs X bs s' W') : QS X (.If e as bs pos) (sIf t s s') (W ++ W') := PS_imp (ps_if ht ha hb) fun En σ H hq0 => by
 obtain ⟨F, R, σD, o, r, ec, k⟩ := hq0
 unfold sIf at ec
 rcases h : t σD with _ | ⟨x, σ1⟩
 ·rw [h] at ec; cases ec
 ·rw [h] at ec; simp only [bind_some] at ec
  refine ⟨F, R, σD, x, σ1, r, h, fun F1 H1 x1 r1 => ?_⟩
  cases x
  ·simp only [Bool.false_eq_true, if_false] at ec ⊢
   exact ⟨F1, R, σ1, o, r1, ec, fun F2 H2 σ2 x2 kp => k F2 H2 σ2 (x1.trans x2) (kp.mono fun k hk => by simp [hk])⟩
  ·simp only [if_true] at ec ⊢
   exact ⟨F1, R, σ1, o, r1, ec, fun F2 H2 σ2 x2 kp => k F2 H2 σ2 (x1.trans x2) (kp.mono fun k hk => by simp [hk])⟩
theorem qs_ret (he : QE X e c) : QS X (.Return (some e) pos) (sRet c) [] := PS_imp (ps_ret he) fun En σ H hq0 => by
 obtain ⟨F, R, σD, o, r, ec, k⟩ := hq0
 unfold sRet at ec
 rcases h : c σD with _ | ⟨d, σ1⟩
 ·rw [h] at ec; cases ec
 ·rw [h] at ec; cases ec
  exact ⟨F, R, σD, d, σ1, r, h, fun F1 H1 v x1 r1 => k F1 H1 σ x1 Kp.refl v r1⟩
theorem qs_expr (he : QE X e c) (hs : swapsWith e none pos.line X.env = pure false := by rfl) : QS X (.Expr e pos) (sDrop c) [] := PS_imp (ps_expr he hs) fun En σ H hq0 => by
 obtain ⟨F, R, σD, o, r, ec, k⟩ := hq0
 unfold sDrop at ec
 rcases h : c σD with _ | ⟨d, σ1⟩
 ·rw [h] at ec; cases ec
 ·rw [h] at ec; cases ec
  exact ⟨F, R, σD, d, σ1, r, h, fun F1 H1 v x1 r1 => k F1 H1 σ x1 Kp.refl r1.pop⟩
end
noncomputable abbrev DG := D → DSt → Option DSt
noncomputable def rG (K : PySem.W.Frag) (g : DG) (W : List Nat) : TG := fun v σ H Q => ∃ F R σD d σD', Rel K F H σD σ ((d, v) :: R) ∧ g d σD = some σD' ∧ ∀ F' H' σ', Ext F H F' H' → Kp W σ σ' → Rel K F' H' σD' σ' R → Q σ' H'
noncomputable def QG (X : Cx) (tg : Expr) (g : DG) (W : List Nat) : Prop := PG X tg (rG X.K g W)
theorem PG_imp {X : Cx} {tg : Expr} {t t' : TG} (h : PG X tg t) (i : ∀ v σ H Q, t' v σ H Q → t v σ H Q) : PG X tg t' := fun pins s σ H v u Q I rv h' => h pins s σ H v u Q I rv (i v σ H Q h')
noncomputable abbrev DGs := List D → DSt → Option DSt
noncomputable def rGs (K : PySem.W.Frag) (g : DGs) (W : List Nat) : TGs := fun vs σ H Q => ∃ F R σD ds σD', ds.length = vs.length ∧ Rel K F H σD σ (ds.zip vs ++ R) ∧ g ds σD = some σD' ∧ ∀ F' H' σ', Ext F H F' H' → Kp W σ σ' → Rel K F' H' σD' σ' R → Q σ' H'
noncomputable def QGs (X : Cx) (ts : List Expr) (g : DGs) (W : List Nat) : Prop := PGs X ts (rGs X.K g W)
theorem PGs_imp {X : Cx} {ts : List Expr} {t t' : TGs} (h : PGs X ts t) (i : ∀ v σ H Q, t' v σ H Q → t v σ H Q) : PGs X ts t' := fun pins s σ H v u Q I rv h' => h pins s σ H v u Q I rv (i v σ H Q h')
noncomputable def gNm (i : Nat) : DG := fun d σ => if i < σ.length then some (σ.set i (some d)) else none
noncomputable def gNilD : DGs := fun ds σ => match ds with | [] => some σ | _ => none
noncomputable def gConsD (g : DG) (gs : DGs) : DGs := fun ds σ => match ds with | d :: r => (g d σ).bind fun σ' => gs r σ' | [] => none
noncomputable def gTupD (n : Nat) (gs : DGs) : DG := fun d σ => match d with | .tup xs => if xs.length = n then gs xs σ else none | _ => none
section
variable {X : Cx} {e tg : Expr} {ts : List Expr} {g : DG} {gs : DGs} {pos : Pos} {W W' : List Nat}
theorem qg_name (i : Nat) {x : Str} {pos : Pos} (hN : X.N.Nodup) (hi : X.N[i]? = some x := by rfl) (hx : Loc X.env.scope x := by first | exact Or.inl rfl | exact Or.inr rfl) (hf : X.fn x = true ∨ X.env.scope.names.lookup x = some .local := by first | exact .inl rfl | exact .inr rfl | assumption) :
  QG X (.Name x pos) (gNm i) [i] := PG_imp (pg_name hN hi hx hf) fun v σ H Q hq0 => by
 obtain ⟨F, R, σD, d, σD', r, ec, k⟩ := hq0
 unfold gNm at ec
 split at ec
 ·rename_i hl
  cases ec
  exact k F H _ Ext.refl Kp.set (r.store (by rw [← r.mt.length]; exact hl))
 ·cases ec
theorem qgs_nil : QGs X [] gNilD [] := PGs_imp pgs_nil fun vs σ H Q hq0 => by
 obtain ⟨F, R, σD, ds, σD', hl, r, ec, k⟩ := hq0
 cases ds with
 | nil => cases ec; exact ⟨List.length_eq_zero_iff.mp hl.symm, k F H σ Ext.refl Kp.refl (by simpa using r)⟩
 | cons d ds => cases ec
theorem qgs_cons (h1 : QG X e g W) (h2 : QGs X ts gs W') (hs : (assignEach (e :: ts) X.env).map (·.2) = assign e X.env :: (assignEach ts X.env).map (·.2) := by rfl) : QGs X (e :: ts) (gConsD g gs) (W ++ W') :=
 PGs_imp (pgs_cons h1 h2 hs) fun vs σ H Q hq0 => by
  obtain ⟨F, R, σD, ds, σD', hl, r, ec, k⟩ := hq0
  cases ds with
  | nil => cases ec
  | cons d ds =>
   cases vs with
   | nil => simp at hl
   | cons v vs =>
    simp only [gConsD] at ec
    rcases h : g d σD with _ | σ1
    ·rw [h] at ec; cases ec
    ·rw [h] at ec; simp only [bind_some] at ec
     refine ⟨v, vs, rfl, F, ds.zip vs ++ R, σD, d, σ1, by simpa using r, h, fun F1 H1 σ2 x1 kp1 r1 => ?_⟩
     exact ⟨F1, R, σ1, ds, σD', by simpa using hl, r1, ec, fun F2 H2 σ3 x2 kp2 r2 => k F2 H2 σ3 (x1.trans x2) ((kp1.mono fun k hk => by simp [hk]).trans (kp2.mono fun k hk => by simp [hk])) r2⟩
theorem qg_tup {n : Nat} {k : Nat} (hc : X.calm = true) (h : QGs X ts gs W) (hn : (assignEach ts X.env).length = n := by rfl) (hst : (assignEach ts X.env).findIdx? (·.1) = none := by rfl) : QG X (.Tuple ts k pos) (gTupD n gs) W :=
 PG_imp (pg_tup hc h hn hst) fun v σ H Q hq0 => by
  obtain ⟨F, R, σD, d, σD', r, ec, k⟩ := hq0
  unfold gTupD at ec
  split at ec
  ·rename_i xs
   split at ec
   ·rename_i hxn
    obtain ⟨a, vs, rfl, ft, hl, r1⟩ := r.openT
    exact ⟨a, vs, rfl, ft.sq, by rw [← hl]; exact hxn, F, R, σD, xs, σD', hl, r1, ec, k⟩
   ·cases ec
  ·cases ec
noncomputable def sAsg (c : DE) (g : DG) : DS := fun σ => (c σ).bind fun p => (g p.1 p.2).map .nx
theorem qs_asg {c : DE} (he : QE X e c) (hg : QG X tg g W) (hs : swapsWithSole [tg] e pos.line X.env = pure false := by rfl) (hw : swappedStores [tg] e X.env = pure none := by rfl)
  (h1 : (assignEach [tg] X.env).map (·.2) = [assign tg X.env] := by rfl) : QS X (.Assign [tg] e pos) (sAsg c g) W := PS_imp (ps_asg he hg hs hw h1) fun En σ H hq0 => by
 obtain ⟨F, R, σD, o, r, ec, k⟩ := hq0
 unfold sAsg at ec
 rcases h : c σD with _ | ⟨d, σ1⟩
 ·rw [h] at ec; cases ec
 ·rw [h] at ec; simp only [bind_some] at ec
  rcases h2 : g d σ1 with _ | σ2
  ·rw [h2] at ec; cases ec
  ·rw [h2] at ec; cases ec
   refine ⟨F, R, σD, d, σ1, r, h, fun F1 H1 v x1 r1 => ?_⟩
   exact ⟨F1, R, σ1, d, σ2, r1, h2, fun F2 H2 σ3 x2 kp r2 => k F2 H2 σ3 (x1.trans x2) kp r2⟩
end
noncomputable def dLoop (g : DG) (b : DS) : List D → DSt → Option Out
 | [], σ => some (.nx σ)
 | x :: xs, σ => (g x σ).bind fun σ1 => (b σ1).bind fun o => match o with
  | .nx σ2 => dLoop g b xs σ2
  | .ct σ2 => dLoop g b xs σ2
  | .bk σ2 => some (.nx σ2)
  | .rt d σ2 => some (.rt d σ2)
noncomputable def rngD (lo hi : Int) : List D := (List.range (hi - lo).toNat).map fun (k : Nat) => D.int (lo + k)
noncomputable def rOk (i : Int) : Bool := decide (-(2 ^ 62) ≤ i ∧ i < 2 ^ 62)
section
variable {X : Cx} {e tg : Expr} {ts : List Expr} {g : DG} {c : DE} {s : DS} {pos : Pos} {W W' : List Nat} {body : List Stmt}
theorem turn_of {F0 F : Addr → Prop} {H0 H : Hp} {R R0 : Ro} {σD : DSt} {σ0 σ : St} {x : D} {v : V} {xs : List D} {En : Ends} {N : St → Hp → Prop} {o : Out} (hR : ∀ F' H', Ext F H F' H' → ∀ σD' σ' S, Rel X.K F' H' σD' σ' (S ++ R) → Rel X.K F' H' σD' σ' (S ++ R0))
  (r : Rel X.K F H σD σ ((x, v) :: R)) (x0 : Ext F0 H0 F H) (kp : Kp (W ++ W') σ0 σ) (h : dLoop g s (x :: xs) σD = some o)
  (k : ∀ F' H' σ', Ext F0 H0 F' H' → Kp (W ++ W') σ0 σ' → Th X.K En R0 F' H' σ' o)
  (hN : ∀ F' H' σD' σ', Ext F H F' H' → Kp (W ++ W') σ0 σ' → Rel X.K F' H' σD' σ' R → dLoop g s xs σD' = some o → N σ' H') :
  rG X.K g W v σ H fun σ2 H2 => rS X.K s W' { En with nx := N, ct := N, bk := En.nx } σ2 H2 := by
 simp only [dLoop] at h
 rcases h1 : g x σD with _ | σ1
 ·rw [h1] at h; cases h
 ·rw [h1] at h; simp only [bind_some] at h
  rcases h2 : s σ1 with _ | o1
  ·rw [h2] at h; cases h
  ·rw [h2] at h; simp only [bind_some] at h
   refine ⟨F, R, σD, x, σ1, r, h1, fun F1 H1 σ2 x1 kp1 r1 => ?_⟩
   refine ⟨F1, R, σ1, o1, r1, h2, fun F2 H2 σ3 x2 kp2 => ?_⟩
   have kp3 : Kp (W ++ W') σ0 σ3 := (kp.trans (kp1.mono fun k hk => by simp [hk])).trans (kp2.mono fun k hk => by simp [hk])
   cases o1 with
   | nx σ4 => exact fun r2 => hN F2 H2 σ4 σ3 (x1.trans x2) kp3 r2 h
   | ct σ4 => exact fun r2 => hN F2 H2 σ4 σ3 (x1.trans x2) kp3 r2 h
   | bk σ4 =>
    cases h
    exact fun r2 => k F2 H2 σ3 (x0.trans (x1.trans x2)) kp3 (hR F2 H2 (x1.trans x2) _ _ [] r2)
   | rt d σ4 =>
    cases h
    exact fun v r2 => k F2 H2 σ3 (x0.trans (x1.trans x2)) kp3 v (hR F2 H2 (x1.trans x2) _ _ [(d, v)] r2)
theorem rng_get {lo hi : Int} {i : Nat} (h : i < (hi - lo).toNat) : (rngD lo hi).drop i = D.int (lo + i) :: (rngD lo hi).drop (i + 1) := by
 have hl : i < (rngD lo hi).length := by simp [rngD, h]
 rw [List.drop_eq_getElem_cons hl]
 simp [rngD]
end
end DD
namespace DD
open PySem PySem.Spec PyProof.Rows L2
noncomputable abbrev GF := List D → Option (D × List D)
noncomputable def spD (K : PySem.W.Frag) (n : Nat) (g : GF) : Sp := fun vs H Q _ => vs.length = n ∧ ∃ F R ds r ds', ds.length = vs.length ∧ G K F H (ds.zip vs ++ R) ∧ g ds = some (r, ds') ∧
 ∀ F' H' v, Ext F H F' H' → ds'.length = vs.length → G K F' H' ((r, v) :: (ds'.zip vs ++ R)) → Q v H'
noncomputable def inD (W : List Nat) : Nat → List D → List D
 | _, [] => []
 | k, d :: ds => (if k ∈ W then d.fz else d) :: inD W (k + 1) ds
noncomputable def outD (W : List Nat) (σ : DSt) : Nat → List D → List D
 | _, [] => []
 | k, d :: ds => (if k ∈ W then d.fz else (dget σ k).getD .hole) :: outD W σ (k + 1) ds
noncomputable def gOf (N : Nat) (W : List Nat) (c : DS) : GF := fun ds => (c ((inD W 0 ds).map some ++ List.replicate (N - ds.length) none)).bind fun o => match o with
 | .rt d σ => some (d, outD W σ 0 ds)
 | .nx σ => some (.non, outD W σ 0 ds)
 | _ => none
section
variable {K : PySem.W.Frag} {F F' : Addr → Prop} {H H' : Hp}
noncomputable def frD (W : List Nat) : Nat → List D → List V → Ro
 | k, d :: ds, v :: vs => if k ∈ W then (d.fz, v) :: frD W (k + 1) ds vs else frD W (k + 1) ds vs
 | _, _, _ => []
theorem inD_length (W : List Nat) : ∀ (k : Nat) (ds : List D), (inD W k ds).length = ds.length
 | _, [] => rfl
 | k, d :: ds => by simp [inD, inD_length W (k + 1) ds]
theorem outD_length (W : List Nat) (σ : DSt) : ∀ (k : Nat) (ds : List D), (outD W σ k ds).length = ds.length
 | _, [] => rfl
 | k, d :: ds => by simp [outD, outD_length W σ (k + 1) ds]
theorem pull {α : Type} {x : α} {A B C : List α} : (A ++ (B ++ x :: C)).Perm (x :: (A ++ (B ++ C))) := ((List.perm_middle (a := x) (l₁ := B) (l₂ := C)).append_left A).trans List.perm_middle
theorem entry (W : List Nat) : ∀ {ds : List D} {vs : List V} {k : Nat} {F : Addr → Prop} {R : Ro}, ds.length = vs.length → G K F H (ds.zip vs ++ R) → ∃ F', Ext F H F' H ∧ G K F' H ((inD W k ds).zip vs ++ (frD W k ds vs ++ R))
 | [], [], _, F, R, _, g => ⟨F, Ext.refl, g⟩
 | d :: ds, v :: vs, k, F, R, hl, g => by
  have hl' : ds.length = vs.length := by simpa using hl
  have g0 : G K F H ((d, v) :: (ds.zip vs ++ R)) := by simpa using g
  by_cases hk : k ∈ W
  ·obtain ⟨F1, x1, g1, o1⟩ := g0.freeze
   have g2 : G K F1 H (ds.zip vs ++ ((d.fz, v) :: (d.fz, v) :: R)) := (g1.push o1).perm (((List.perm_middle).symm.cons _).trans (List.perm_middle).symm)
   obtain ⟨F2, x2, g3⟩ := entry W (k := k + 1) hl' g2
   refine ⟨F2, x1.trans x2, ?_⟩
   simp only [inD, frD, hk, if_true, List.zip_cons_cons]
   exact g3.perm (pull.trans ((List.perm_middle.append_left _).cons _))
  ·obtain ⟨F2, x2, g3⟩ := entry W (k := k + 1) (R := (d, v) :: R) hl' (g0.perm (List.perm_middle.symm))
   refine ⟨F2, x2, ?_⟩
   simp only [inD, frD, hk, if_false, List.zip_cons_cons]
   exact g3.perm pull
theorem dget_set_ne {σ : DSt} {i j : Nat} {o : Option D} (h : i ≠ j) : dget (σ.set i o) j = dget σ j := by
 unfold dget; rw [List.getElem?_set_ne h]
theorem outD_set (W : List Nat) {σ : DSt} {o : Option D} {i : Nat} : ∀ {k : Nat} {ds : List D}, i < k → outD W (σ.set i o) k ds = outD W σ k ds
 | _, [], _ => rfl
 | k, d :: ds, h => by simp only [outD]; rw [dget_set_ne (by omega), outD_set W (k := k + 1) (by omega)]
theorem exitP (W : List Nat) {σ : St} : ∀ {ds : List D} {vs : List V} {k : Nat} {σD : DSt} {R : Ro}, ds.length = vs.length → (∀ (j : Nat) v, vs[j]? = some v → k + j ∉ W → σ[k + j]? = some (some v)) →
  Rel K F H σD σ (frD W k ds vs ++ R) → ∃ σD2, Rel K F H σD2 σ ((outD W σD k ds).zip vs ++ R)
 | [], [], _, σD, R, _, _, r => ⟨σD, r⟩
 | d :: ds, v :: vs, k, σD, R, hl, hv, r => by
  have hl' : ds.length = vs.length := by simpa using hl
  have hv' : ∀ (j : Nat) u, vs[j]? = some u → k + 1 + j ∉ W → σ[k + 1 + j]? = some (some u) := fun j u e h => by
   have q := hv (j + 1) u (by simpa using e) (by rw [show k + (j + 1) = k + 1 + j by omega]; exact h)
   rw [show k + (j + 1) = k + 1 + j by omega] at q; exact q
  by_cases hk : k ∈ W
  ·simp only [frD, hk, if_true] at r
   obtain ⟨σ2, r2⟩ := exitP W (k := k + 1) (R := (d.fz, v) :: R) hl' hv' (r.perm List.perm_middle.symm)
   refine ⟨σ2, ?_⟩
   simp only [outD, hk, if_true, List.zip_cons_cons]
   exact r2.perm List.perm_middle
  ·simp only [frD, hk, if_false] at r
   have e0 : σ[k]? = some (some v) := by simpa using hv 0 v rfl (by simpa using hk)
   rcases hd : dget σD k with _ | dk
   ·have r1 : Rel K F H σD σ ((.hole, v) :: (frD W (k + 1) ds vs ++ R)) := r.push (by simp only [Ow])
    obtain ⟨σ2, r2⟩ := exitP W (k := k + 1) (R := (.hole, v) :: R) hl' hv' (r1.perm List.perm_middle.symm)
    refine ⟨σ2, ?_⟩
    simp only [outD, hk, if_false, List.zip_cons_cons, hd, Option.getD_none]
    exact r2.perm List.perm_middle
   ·obtain ⟨v', hv1, r1⟩ := r.take (dget_some hd)
    rw [e0] at hv1; cases hv1
    obtain ⟨σ2, r2⟩ := exitP W (k := k + 1) (R := (dk, v) :: R) hl' hv' (r1.perm List.perm_middle.symm)
    refine ⟨σ2, ?_⟩
    simp only [outD, hk, if_false, List.zip_cons_cons, hd, Option.getD_some]
    rw [outD_set W (Nat.lt_succ_self k)] at r2
    exact r2.perm List.perm_middle
theorem sl_none' : ∀ {n : Nat} {σ : St}, sl (List.replicate n none) σ = []
 | 0, σ => by cases σ <;> rfl
 | n + 1, [] => rfl
 | n + 1, o :: σ => by rw [List.replicate_succ]; exact sl_none' (n := n) (σ := σ)
theorem sl_start : ∀ {ds : List D} {vs : List V} {n : Nat}, ds.length = vs.length → sl (ds.map some ++ List.replicate n none) (vs.map some ++ List.replicate n none) = ds.zip vs
 | [], [], n, _ => by simpa using sl_none'
 | d :: ds, v :: vs, n, h => by
  show (d, v) :: sl (ds.map some ++ List.replicate n none) (vs.map some ++ List.replicate n none) = _
  rw [sl_start (by simpa using h)]; rfl
theorem mt_none : ∀ {n : Nat}, Mt (List.replicate n none) (List.replicate n none)
 | 0 => trivial
 | n + 1 => by rw [List.replicate_succ, List.replicate_succ]; exact mt_none (n := n)
theorem mt_start : ∀ {ds : List D} {vs : List V} {n : Nat}, ds.length = vs.length → Mt (ds.map some ++ List.replicate n none) (vs.map some ++ List.replicate n none)
 | [], [], n, _ => by simpa using mt_none
 | d :: ds, v :: vs, n, h => mt_start (ds := ds) (vs := vs) (n := n) (by simpa using h)
end
section
variable {P : Program} {w : World} {K : PySem.W.Frag} {mg : Str → Option Value} {base : Heap}
theorem fn_D {x qual : Str} {st : Stmt} {f : Addr} {fd : FuncData} {N ps : List Str} {k : Nat} {W : List Nat} {c : DS} (F : Fun K x qual st f fd) (S : FnScope N ps (defScope st)) (hnp : ps.length ≤ N.length)
  (hbody : ∀ (cdv : Value) (A : Around) (outer : List Env) (s : Shared) (H : Hp) (E : XK), Room k (A.deeper (envOfC qual (defScope st) s.heap.objs.size f cdv)) →
   QSs (cxOf CX0 P w K mg base N qual (defScope st) f cdv A outer s H E).nox (defBody st) c W) :
  FnOk P w K mg base CX0 (k + 1) f fd ps (spD K ps.length (gOf N.length W c)) := by
 refine F.ok S (fun vs H Q E h => h.1) (fun cdv A outer s H vs Q E hr h => ?_)
 obtain ⟨hlen, F0, R, ds, r, ds', hl, g, eg, kk⟩ := h
 refine ⟨_, hbody cdv A outer s H E hr, ?_⟩
 show rS K c W _ _ _
 unfold gOf at eg
 obtain ⟨F1, x1, g1⟩ := entry W (k := 0) hl g
 have hl2 : (inD W 0 ds).length = vs.length := by rw [inD_length]; exact hl
 have est : L2.start N vs = vs.map some ++ List.replicate (N.length - ds.length) none := by unfold L2.start; rw [hl]
 have r0 : Rel K F1 H ((inD W 0 ds).map some ++ List.replicate (N.length - ds.length) none) (L2.start N vs) (frD W 0 ds vs ++ R) := by
  rw [est]
  exact ⟨mt_start hl2, by rw [sl_start hl2]; exact g1⟩
 rcases h : c ((inD W 0 ds).map some ++ List.replicate (N.length - ds.length) none) with _ | o
 ·rw [h] at eg; cases eg
 ·rw [h] at eg; simp only [bind_some] at eg
  refine ⟨F1, _, _, o, r0, h, fun F2 H2 σ2 x2 kp => ?_⟩
  have hv : ∀ (j : Nat) v, vs[j]? = some v → 0 + j ∉ W → σ2[0 + j]? = some (some v) := fun j v e hj => by
   rw [kp (0 + j) hj, Nat.zero_add, est]
   have hjl : j < vs.length := (List.getElem?_eq_some_iff.mp e).1
   rw [List.getElem?_append_left (by simpa using hjl)]
   simp [e]
  cases o with
  | nx σ3 =>
   cases eg
   intro r3
   obtain ⟨σ4, r4⟩ := exitP W (k := 0) hl hv r3
   exact kk F2 H2 .non (x1.trans x2) (by rw [outD_length]; exact hl) ((r4.scal (d := .non) (w := .non) rfl).g.popN)
  | rt d σ3 =>
   cases eg
   intro v r3
   obtain ⟨σ4, r4⟩ := exitP W (k := 0) (R := (_, v) :: R) hl hv (r3.perm List.perm_middle.symm)
   exact kk F2 H2 v (x1.trans x2) (by rw [outD_length]; exact hl) ((r4.perm List.perm_middle).g.popN)
  | bk σ3 => cases eg
  | ct σ3 => cases eg
end
inductive Arg where
 | bo (i : Nat) | ex (c : DE)
noncomputable def evM : List Arg → DSt → Option (List (Option D) × DSt)
 | [], σ => some ([], σ)
 | .bo i :: as, σ => (dget σ i).bind fun _ => (evM as σ).map fun p => (none :: p.1, p.2)
 | .ex c :: as, σ => (c σ).bind fun q => (evM as q.2).map fun p => (some q.1 :: p.1, p.2)
noncomputable def fillM : List Arg → List (Option D) → DSt → Option (List D × DSt)
 | .bo i :: as, none :: os, σ => (dget σ i).bind fun d => match d.sc with
  | some _ => (fillM as os σ).map fun p => (d :: p.1, p.2)
  | none => (fillM as os (σ.set i none)).map fun p => (d :: p.1, p.2)
 | .ex _ :: as, some d :: os, σ => (fillM as os σ).map fun p => (d :: p.1, p.2)
 | [], [], σ => some ([], σ)
 | _, _, _ => none
noncomputable def backM : List Arg → List D → DSt → DSt
 | .bo i :: as, d :: ds, σ => match d.sc with
  | some _ => backM as ds σ
  | none => backM as ds (σ.set i (some d))
 | .ex _ :: as, _ :: ds, σ => backM as ds σ
 | _, _, σ => σ
noncomputable def dCall (g : GF) (as : List Arg) : DE := fun σ => (evM as σ).bind fun p => (fillM as p.1 p.2).bind fun q => (g q.1).map fun r => (r.1, backM as r.2 q.2)
noncomputable def OkM : List Arg → List (Option D) → List V → St → Prop
 | .bo i :: as, none :: os, v :: vs, σ => σ[i]? = some (some v) ∧ OkM as os vs σ
 | .ex _ :: as, some _ :: os, _ :: vs, σ => OkM as os vs σ
 | [], [], [], _ => True
 | _, _, _, _ => False
noncomputable def tz : List (Option D) → List V → Ro
 | none :: os, _ :: vs => tz os vs
 | some d :: os, v :: vs => (d, v) :: tz os vs
 | _, _ => []
noncomputable def rM (K : PySem.W.Frag) (as : List Arg) : TA := fun σ H Q => ∃ F R σD os σD', Rel K F H σD σ R ∧ evM as σD = some (os, σD') ∧ ∀ F' H' vs, Ext F H F' H' → OkM as os vs σ → Rel K F' H' σD' σ (tz os vs ++ R) → Q vs H'
noncomputable def QM (X : Cx) (es : List Expr) (as : List Arg) : Prop := PA X es (rM X.K as)
section
variable {X : Cx} {e : Expr} {es : List Expr} {as : List Arg} {c : DE}
theorem qm_nil : QM X [] [] := PA_imp pa_nil fun σ H Q hq0 => by
 obtain ⟨F, R, σD, os, σD', r, ec, k⟩ := hq0
 cases ec; exact k F H [] Ext.refl trivial r
theorem qm_ex (ha : QE X e c) (hr : QM X es as) (hs : starEach (e :: es) X.env = (false, eval e X.env) :: starEach es X.env := by rfl) : QM X (e :: es) (.ex c :: as) := PA_imp (pa_cons ha hr hs) fun σ H Q hq0 => by
 obtain ⟨F, R, σD, os, σD', r, ec, k⟩ := hq0
 simp only [evM] at ec
 rcases h1 : c σD with _ | ⟨x, σ1⟩
 ·rw [h1] at ec; cases ec
 ·rw [h1] at ec; simp only [bind_some] at ec
  obtain ⟨⟨os2, σ2⟩, e2, e3⟩ := map_pair ec
  cases e3
  refine ⟨F, R, σD, x, σ1, r, h1, fun F1 H1 v x1 r1 => ?_⟩
  refine ⟨F1, _, σ1, os2, σ2, r1, e2, fun F2 H2 vs x2 ok r2 => ?_⟩
  exact k F2 H2 (v :: vs) (x1.trans x2) ok (r2.perm List.perm_middle)
theorem qm_bo (i : Nat) {x : Str} {pos : Pos} (hr : QM X es as) (hN : X.N[i]? = some x := by rfl) (hv : Vis X.env.scope x := by first | exact Or.inl rfl | exact Or.inr (Or.inl rfl) | exact Or.inr (Or.inr rfl)) (hd : (x == ("__debug__" : Str)) = false := by decide)
  (hcd : (x == ("__classdict__" : Str)) = false := by decide) (hs : starEach (.Name x pos :: es) X.env = (false, eval (.Name x pos) X.env) :: starEach es X.env := by rfl) : QM X (.Name x pos :: es) (.bo i :: as) :=
 PA_imp (pa_cons (pe_var hN hv hd hcd) hr hs) fun σ H Q hq0 => by
  obtain ⟨F, R, σD, os, σD', r, ec, k⟩ := hq0
  simp only [evM] at ec
  rcases h1 : dget σD i with _ | d
  ·rw [h1] at ec; cases ec
  ·rw [h1] at ec; simp only [bind_some] at ec
   obtain ⟨⟨os2, σ2⟩, e2, e3⟩ := map_pair ec
   cases e3
   obtain ⟨v, hv, b⟩ := r.get (dget_some h1)
   refine ⟨v, hv, F, R, σD, os2, σ2, r, e2, fun F2 H2 vs x2 ok r2 => ?_⟩
   exact k F2 H2 (v :: vs) x2 ⟨hv, ok⟩ r2
variable {K : PySem.W.Frag} {F F' : Addr → Prop} {H H' : Hp}
theorem fill_ok : ∀ {as : List Arg} {os : List (Option D)} {vs : List V} {σ : St} {σD : DSt} {R : Ro} {ds : List D} {σD' : DSt}, OkM as os vs σ → fillM as os σD = some (ds, σD') → Rel K F H σD σ (tz os vs ++ R) →
  ds.length = vs.length ∧ Rel K F H σD' σ (ds.zip vs ++ R)
 | [], [], [], σ, σD, R, ds, σD', _, e, r => by simp only [fillM] at e; cases e; exact ⟨rfl, r⟩
 | .bo i :: as, none :: os, v :: vs, σ, σD, R, ds, σD', ok, e, r => by
  obtain ⟨hv, ok⟩ := ok
  simp only [fillM] at e
  rcases h1 : dget σD i with _ | d
  ·rw [h1] at e; cases e
  ·rw [h1] at e; simp only [bind_some] at e
   obtain ⟨v', hv1, r1⟩ := r.take (dget_some h1)
   rw [hv] at hv1; cases hv1
   rcases hs : d.sc with _ | wv
   ·rw [hs] at e
    obtain ⟨⟨ds2, σ2⟩, e2, e3⟩ := map_pair e
    cases e3
    obtain ⟨l, r2⟩ := fill_ok (R := (d, v) :: R) ok e2 (r1.perm List.perm_middle.symm)
    exact ⟨by simp [l], r2.perm List.perm_middle⟩
   ·rw [hs] at e
    obtain ⟨⟨ds2, σ2⟩, e2, e3⟩ := map_pair e
    cases e3
    have ev : v = wv := (r1.bor (by simp)).sc hs
    subst ev
    obtain ⟨l, r2⟩ := fill_ok (R := R) ok e2 r
    exact ⟨by simp [l], r2.scal hs⟩
 | .ex _ :: as, some d :: os, v :: vs, σ, σD, R, ds, σD', ok, e, r => by
  simp only [fillM] at e
  obtain ⟨⟨ds2, σ2⟩, e2, e3⟩ := map_pair e
  cases e3
  obtain ⟨l, r2⟩ := fill_ok (as := as) (os := os) (vs := vs) (R := (d, v) :: R) ok e2 (r.perm (List.perm_middle (l₁ := tz os vs)).symm)
  exact ⟨by simp [l], r2.perm List.perm_middle⟩
theorem back_ok : ∀ {as : List Arg} {os : List (Option D)} {vs : List V} {σ : St} {σD : DSt} {R : Ro} {ds : List D}, OkM as os vs σ → ds.length = vs.length → Rel K F H σD σ (ds.zip vs ++ R) → Rel K F H (backM as ds σD) σ R
 | [], [], [], σ, σD, R, [], _, _, r => r
 | .bo i :: as, none :: os, v :: vs, σ, σD, R, d :: ds, ok, l, r => by
  obtain ⟨hv, ok⟩ := ok
  simp only [backM]
  rcases hs : d.sc with _ | wv
  ·exact back_ok ok (by simpa using l) (Rel.put (R := ds.zip vs ++ R) r hv)
  ·exact back_ok ok (by simpa using l) (Rel.pop (R := ds.zip vs ++ R) r)
 | .ex _ :: as, some d' :: os, v :: vs, σ, σD, R, d :: ds, ok, l, r => back_ok (as := as) (os := os) ok (by simpa using l) (Rel.pop (R := ds.zip vs ++ R) r)
theorem OkM.length : ∀ {as : List Arg} {os : List (Option D)} {vs : List V} {σ : St}, OkM as os vs σ → vs.length = as.length
 | [], [], [], _, _ => rfl
 | .bo _ :: as, none :: os, _ :: vs, σ, h => by simp [OkM.length (as := as) (os := os) (vs := vs) h.2]
 | .ex _ :: as, some _ :: os, _ :: vs, σ, h => by simp [OkM.length (as := as) (os := os) (vs := vs) (σ := σ) h]
theorem rCall {n : Nat} {g : GF} {E : XK} {σ : St} {H : Hp} {Q : VK} (hn : as.length = n) (h : rE K (dCall g as) σ H Q) : tCall (spD K n g) [] E (rM K as) σ H Q := by
 obtain ⟨F, R, σD, d, σD', r, ec, k⟩ := h
 unfold dCall at ec
 rcases h1 : evM as σD with _ | ⟨os, σ1⟩
 ·rw [h1] at ec; cases ec
 ·rw [h1] at ec; simp only [bind_some] at ec
  rcases h2 : fillM as os σ1 with _ | ⟨ds, σ2⟩
  ·rw [h2] at ec; cases ec
  ·rw [h2] at ec; simp only [bind_some] at ec
   obtain ⟨⟨d', ds'⟩, e2, e3⟩ := map_pair ec
   cases e3
   refine ⟨F, R, σD, os, σ1, r, h1, fun F1 H1 vs x1 ok r1 => ?_⟩
   obtain ⟨l, r2⟩ := fill_ok ok h2 r1
   have lv : vs.length = n := by rw [← hn]; exact ok.length
   refine ⟨by simpa using lv, F1, sl σ2 σ ++ R, ds, _, ds', by simpa using l, ?_, e2, fun F2 H2 v x2 l2 g2 => ?_⟩
   ·rw [List.append_nil]
    exact r2.g.perm (by rw [← List.append_assoc, ← List.append_assoc]; exact List.perm_append_comm.append_right R)
   ·refine k F2 H2 v (x1.trans x2) ?_
    rw [List.append_nil] at l2 g2
    refine back_ok (R := (_, v) :: R) ok l2 ⟨r2.mt, g2.perm ?_⟩
    exact ((pull (x := (_, v)) (A := sl σ2 σ) (B := ds'.zip vs) (C := R)).trans ((List.perm_append_comm_assoc _ _ _).cons _)).symm
theorem qe_call {k : Nat} {f : Addr} {fd : FuncData} {ps : List Str} {g : GF} {x : Str} {p pos : Pos} (F : FnOk X.prog X.w X.K X.mg X.base CX0 k f fd ps (spD X.K ps.length g)) (hr : Room k X.A) (hg : Gl X x) (hm : X.mg x = some (.ref f)) (hk : PySem.W.keepIn X.K (.ref f) = true) (hb : Binds X.K fd ps [])
  (ha : QM X (e :: es) as) (hn : as.length = ps.length := by rfl) (hdb : (x == ("__debug__" : Str)) = false := by decide) (he : starEach (e :: es) X.env = (false, eval e X.env) :: starEach es X.env := by rfl) (hpl : (backTo pos (starEach es X.env)).any (·.1) = false := by rfl) :
  QE X (.Call (.Name x p) (e :: es) [] pos) (dCall g as) := PE_imp (pe_call (E := E0) F hr hg hm hk hb .nil pass0 ha hdb he hpl) fun _ _ _ h => rCall hn h
end
end DD
namespace L2
open PySem PySem.Spec PyProof.Rows
theorem cf_own : ∀ (names : List (Str × NameKind)) (n : Nat) (acc : List (Str × Addr)), ∃ own, cellsFrom n names acc = own ++ acc ∧ (∀ p ∈ own, n ≤ p.2 ∧ (p.1, NameKind.cell) ∈ names) ∧
  (∀ x, (x, NameKind.cell) ∈ names → ∃ c, (x, c) ∈ own) ∧ own.Pairwise fun x y => x.2 ≠ y.2
 | [], n, acc => ⟨[], rfl, (fun _ h => by cases h), (fun _ h => by cases h), List.Pairwise.nil⟩
 | (name, kind) :: r, n, acc => by
  unfold cellsFrom
  by_cases hk : kind = .cell
  ·subst hk
   obtain ⟨own, e, h1, h2, h3⟩ := cf_own r (n + 1) ((name, n) :: acc)
   refine ⟨own ++ [(name, n)], ?_, ?_, ?_, ?_⟩
   ·rw [if_pos (by decide), e, List.append_assoc]; rfl
   ·intro p hp
    rcases List.mem_append.mp hp with hp | hp
    ·exact ⟨Nat.le_of_succ_le (h1 p hp).1, List.mem_cons_of_mem _ (h1 p hp).2⟩
    ·rw [List.mem_singleton.mp hp]; exact ⟨Nat.le_refl _, List.mem_cons_self⟩
   ·intro x hx
    rcases List.mem_cons.mp hx with hx | hx
    ·cases hx; exact ⟨n, List.mem_append_right _ List.mem_cons_self⟩
    ·obtain ⟨c, hc⟩ := h2 x hx; exact ⟨c, List.mem_append_left _ hc⟩
   ·refine List.pairwise_append.mpr ⟨h3, List.pairwise_singleton _ _, fun a ha b hb e => ?_⟩
    rw [List.mem_singleton.mp hb] at e
    have h5 := (h1 a ha).1
    rw [show a.2 = n from e] at h5
    exact absurd h5 (Nat.not_succ_le_self n)
  ·obtain ⟨own, e, h1, h2, h3⟩ := cf_own r n acc
   have hk' : (kind == NameKind.cell) = false := by cases kind <;> first | rfl | exact absurd rfl hk
   refine ⟨own, by rw [hk']; exact e, fun p hp => ⟨(h1 p hp).1, List.mem_cons_of_mem _ (h1 p hp).2⟩, fun x hx => ?_, h3⟩
   rcases List.mem_cons.mp hx with hx | hx
   ·cases hx; exact absurd rfl hk
   ·exact h2 x hx
theorem closure_ok {scope : Scope} {env : Env} (h : ∀ x, (x, NameKind.free) ∈ scope.names → ∃ c, env.cells.lookup x = some c) :
  ∃ cl, closureFor scope env = pure cl ∧ (∀ p ∈ cl, env.cells.lookup p.1 = some p.2) ∧ ∀ x, (x, NameKind.free) ∈ scope.names → ∃ c, (x, c) ∈ cl := by
 have all : ∀ (names : List (Str × NameKind)) (acc : List (Str × Addr)), (∀ x, (x, NameKind.free) ∈ names → ∃ c, env.cells.lookup x = some c) → (∀ p ∈ acc, env.cells.lookup p.1 = some p.2) →
   ∃ cl, (forIn (m := Sem) names acc fun (p : Str × NameKind) (cs : List (Str × Addr)) => if (p.2 == NameKind.free) = true then do let __do_lift ← cellOf env p.1; pure (ForInStep.yield ((p.1, __do_lift) :: cs)) else pure (ForInStep.yield cs)) = pure cl ∧
    (∀ p ∈ cl, env.cells.lookup p.1 = some p.2) ∧ (∀ p ∈ acc, p ∈ cl) ∧ ∀ x, (x, NameKind.free) ∈ names → ∃ c, (x, c) ∈ cl := by
  intro names
  induction names with
  | nil => intro acc _ ha; exact ⟨acc, by rw [List.forIn_nil], ha, fun _ h => h, (fun _ h => by cases h)⟩
  | cons p r ih =>
   obtain ⟨name, kind⟩ := p
   intro acc hn ha
   by_cases hk : kind = .free
   ·subst hk
    obtain ⟨c, hc⟩ := hn name List.mem_cons_self
    obtain ⟨cl, e, h1, h2, h3⟩ := ih ((name, c) :: acc) (fun x hx => hn x (List.mem_cons_of_mem _ hx)) (fun p hp => by
     rcases List.mem_cons.mp hp with rfl | hp
     ·exact hc
     ·exact ha p hp)
    refine ⟨cl, ?_, h1, fun p hp => h2 p (List.mem_cons_of_mem _ hp), fun x hx => ?_⟩
    ·rw [List.forIn_cons]
     have ec : cellOf env name = pure c := by unfold cellOf; rw [hc]
     simp only [ec]
     exact e
    ·rcases List.mem_cons.mp hx with hx | hx
     ·cases hx; exact ⟨c, h2 _ List.mem_cons_self⟩
     ·exact h3 x hx
   ·obtain ⟨cl, e, h1, h2, h3⟩ := ih acc (fun x hx => hn x (List.mem_cons_of_mem _ hx)) ha
    have hk' : (kind == NameKind.free) = false := by cases kind <;> first | rfl | exact absurd rfl hk
    refine ⟨cl, ?_, h1, h2, fun x hx => ?_⟩
    ·rw [List.forIn_cons]; simp only [hk', Bool.false_eq_true, if_false]; exact e
    ·rcases List.mem_cons.mp hx with hx | hx
     ·cases hx; exact absurd rfl hk
     ·exact h3 x hx
 obtain ⟨cl, e, h1, _, h3⟩ := all scope.names [] h (fun _ h => by cases h)
 refine ⟨cl, ?_, h1, h3⟩
 simp only [closureFor]
 rw [e]
 rfl
theorem nfe_comp {M : Model} {A : Around} {E : Value → Shared → Prop} {s : Shared} {scope : Scope} {env : Env} {cl : List (Str × Addr)} {Q : Env → Shared → Prop}
  (hQ : Q (newEnv scope s.heap.objs.size env.globals (cellsFrom (s.heap.objs.size + 1) scope.names cl) env.qual none .none (some env) builtinsNs) { s with heap := pushCells (s.heap.push { cls := .type "dict", data := .dict #[] }) scope.names }) :
  wpAny M A (newFunctionEnv scope env.globals cl [] env.qual none .none (some env)) Q E s := by
 simp only [newFunctionEnv, Option.isSome_some, if_true]
 refine wpAny_bind (wpAny_alloc ?_)
 refine wpAny_bind (wpAny_layCells _ (fun name kind cells => by cases hkc : kind == NameKind.cell <;> simp [hkc]) _ _ _ _ ?_)
 rw [show ({ s with heap := s.heap.push { cls := .type "dict", data := .dict #[] } } : Shared).heap.objs.size = s.heap.objs.size + 1 from Heap.size_push ..]
 refine wpAny_bind ?_
 rw [List.forIn_nil]
 exact wpAny_pure (wpAny_pure hQ)
noncomputable def cyOf (X : Cx) (N' : List Str) (scope : Scope) (cl : List (Str × Addr)) (s : Shared) (H : Hp) (fp : List Addr) (pins : List (Addr × Obj)) : Cx :=
 { X with N := N', s₀ := s, H₀ := H, env := compEnvC scope (cellsFrom (s.heap.objs.size + 1) scope.names cl) s.heap.objs.size X.env, outer := X.stack, stack := X.stack, ex := fp,
          fn := fun x => scope.names.lookup x == some .cell, pn := X.pn ++ pins, xe := fun _ _ => False }
structure CyOk (X : Cx) (N' : List Str) (scope : Scope) : Prop where
 kind : scope.kind = .function
 nd : (scope.names.map (·.1)).Nodup
 len : X.N.length ≤ N'.length
 free : ∀ x, (x, NameKind.free) ∈ scope.names → X.env.kindOf x = some .cell ∨ X.env.kindOf x = some .free
 same : ∀ i x, i < X.N.length → N'[i]? = some x → (x, NameKind.free) ∈ scope.names → X.N[i]? = some x
 hid : ∀ i x, i < X.N.length → N'[i]? = some x → (∃ k, (x, k) ∈ scope.names) → (x, NameKind.free) ∈ scope.names
theorem lookup_mem {α : Type} : ∀ {l : List (Str × α)} {x : Str} {k : α}, (l.map (·.1)).Nodup → (x, k) ∈ l → l.lookup x = some k
 | (y, j) :: r, x, k, nd, h => by
  rw [List.map_cons, List.nodup_cons] at nd
  rcases List.mem_cons.mp h with h | h
  ·cases h; rw [List.lookup_cons]; simp
  ·have ne : x ≠ y := fun e => nd.1 (e ▸ List.mem_map_of_mem (f := (·.1)) h)
   rw [List.lookup_cons]
   have : (x == y) = false := by simpa using ne
   rw [this]
   exact lookup_mem nd.2 h
theorem lookup_ex {α : Type} : ∀ {l : List (Str × α)} {x : Str} {k : α}, (x, k) ∈ l → ∃ k', l.lookup x = some k'
 | (y, j) :: r, x, k, h => by
  rw [List.lookup_cons]
  cases hb : x == y with
  | true => exact ⟨j, rfl⟩
  | false =>
   rcases List.mem_cons.mp h with h | h
   ·cases h; simp at hb
   ·exact lookup_ex h
theorem relabel_mem {scope : Scope} {env : Env} {x : Str} {k : NameKind} (h : (relabel scope env).names.lookup x = some k) : (x, k) ∈ scope.names ∨ ((x, NameKind.free) ∈ scope.names ∧ k = .cell) := by
 have h1 := mem_of_lookup h
 unfold relabel at h1
 obtain ⟨⟨n, j⟩, hm, e⟩ := List.mem_map.mp h1
 dsimp only at e
 split at e
 ·rename_i hc
  cases e
  refine .inr ⟨?_, rfl⟩
  have : j = .free := by
   cases j <;> simp at hc <;> rfl
  subst this; exact hm
 ·cases e; exact .inl hm
theorem lookup_append {α : Type} {a b : List (Str × α)} {x : Str} (h : ∀ p ∈ a, p.1 ≠ x) : (a ++ b).lookup x = b.lookup x := by
 induction a with
 | nil => rfl
 | cons p r ih =>
  obtain ⟨y, j⟩ := p
  rw [List.cons_append, List.lookup_cons]
  have : (x == y) = false := by
   have := h (y, j) List.mem_cons_self
   simpa using fun e : x = y => this e.symm
  rw [this]
  exact ih fun p hp => h p (List.mem_cons_of_mem _ hp)
section
variable {X : Cx} {N' : List Str} {scope : Scope} {cl : List (Str × Addr)} {s : Shared} {H : Hp} {fp : List Addr} {pins : List (Addr × Obj)} {σ : St}
theorem cy_start (T : CyOk X N' scope) (I : Inv X pins σ H s) (hcl : ∀ p ∈ cl, X.env.cells.lookup p.1 = some p.2) (hfr : ∀ x, (x, NameKind.free) ∈ scope.names → ∃ c, (x, c) ∈ cl)
  (hf : ∀ b ∈ fp, FpOk X pins H b) (ho : ∀ b ∈ fp, ∃ o, s.heap.get? b = some o) :
  Inv (cyOf X N' scope cl s H fp pins) [] (σ ++ List.replicate (N'.length - X.N.length) none) H { s with heap := pushCells (s.heap.push { cls := .type "dict", data := .dict #[] }) scope.names } := by
 obtain ⟨own, eo, o1, o2, o3⟩ := cf_own scope.names (s.heap.objs.size + 1) cl
 have keep : ∀ b o, s.heap.get? b = some o → (pushCells (s.heap.push { cls := .type "dict", data := .dict #[] }) scope.names).get? b = some o := fun b o e => pushCells_keeps _ _ b o (Heap.get?_push_of_some _ e)
 have clt : ∀ x c, (x, c) ∈ cl → c < s.heap.objs.size := fun x c h => by
  obtain ⟨v, z⟩ := I.cell x c (hcl _ h)
  exact z.lt
 -- what a cell of the block is
 have cases_ : ∀ x c, (own ++ cl).lookup x = some c → (s.heap.objs.size + 1 ≤ c ∧ (x, c) ∈ own) ∨ X.env.cells.lookup x = some c := fun x c h => by
  rcases List.mem_append.mp (mem_of_lookup h) with h | h
  ·exact .inl ⟨(o1 _ h).1, h⟩
  ·exact .inr (hcl _ h)
 have hst : ∀ b ∈ fp, b ∉ frs X.stack := fun b hb z => by
  rcases List.mem_cons.mp (I.stkSub b z) with e | e
  ·exact (hf b hb).2.1 e
  ·exact (hf b hb).2.2.1 e
 have okc : CellsOk (pushCells (s.heap.push { cls := .type "dict", data := .dict #[] }) scope.names) (s.heap.objs.size + 1) (cellsFrom (s.heap.objs.size + 1) scope.names []) := by
  have q := cellsFrom_ok scope.names (s.heap.push { cls := .type "dict", data := .dict #[] }) (s.heap.objs.size + 1) [] ⟨(fun _ _ hm => by cases hm), List.Pairwise.nil⟩ (by rw [Heap.size_push]; exact Nat.le_refl _)
  rw [Heap.size_push] at q
  exact q
 have eown : cellsFrom (s.heap.objs.size + 1) scope.names [] = own := by
  obtain ⟨own', e', _⟩ := cf_own scope.names (s.heap.objs.size + 1) []
  have gen : ∀ (names : List (Str × NameKind)) (n : Nat) (acc : List (Str × Addr)), cellsFrom n names acc = cellsFrom n names [] ++ acc := by
   intro names
   induction names with
   | nil => intro n acc; rfl
   | cons p r ih =>
    obtain ⟨name, kind⟩ := p
    intro n acc
    unfold cellsFrom
    split
    ·rw [ih (n + 1) ((name, n) :: acc), ih (n + 1) [(name, n)], List.append_assoc]; rfl
    ·exact ih n acc
  have := gen scope.names (s.heap.objs.size + 1) cl
  rw [eo] at this
  exact (List.append_cancel_right this).symm
 have ok : (cyOf X N' scope cl s H fp pins).Ok := by
  refine ⟨I.ok.mod, T.kind, I.ok.glob, I.ok.blt, Nat.le_refl _, fun x y c h1 h2 => ?_, fun x h => ?_, fun x c h1 h2 => ?_, I.ok.hd, I.ok.frames, .inl rfl, fun b hb => ⟨?_, fun x c h => ?_⟩, I.bs, Nat.le_trans I.ok.bsz I.sz, fun b o e hb => ?_, hst, I.stack, I.stkFree⟩
  ·have h1 : (own ++ cl).lookup x = some c := eo ▸ h1
   have h2 : (own ++ cl).lookup y = some c := eo ▸ h2
   rcases cases_ x c h1 with ⟨l1, m1⟩ | e1
   ·rcases cases_ y c h2 with ⟨l2, m2⟩ | e2
    ·exact name_of_addr o3 m1 m2
    ·obtain ⟨v, z⟩ := I.cell y c e2
     exact absurd (Nat.lt_of_lt_of_le z.lt (Nat.le_of_succ_le (by first | exact l2 | exact l1))) (Nat.lt_irrefl _)
   ·rcases cases_ y c h2 with ⟨l2, m2⟩ | e2
    ·obtain ⟨v, z⟩ := I.cell x c e1
     exact absurd (Nat.lt_of_lt_of_le z.lt (Nat.le_of_succ_le (by first | exact l2 | exact l1))) (Nat.lt_irrefl _)
    ·exact I.ok.inj x y c e1 e2
  ·show ∃ c, (cellsFrom (s.heap.objs.size + 1) scope.names cl).lookup x = some c
   rw [eo]
   have fromFree : (x, NameKind.free) ∈ scope.names → ∃ c, (own ++ cl).lookup x = some c := fun hm => by
    obtain ⟨c, hc⟩ := hfr x hm
    exact lookup_ex (List.mem_append_right own hc)
   have fromCell : (x, NameKind.cell) ∈ scope.names → ∃ c, (own ++ cl).lookup x = some c := fun hm => by
    obtain ⟨c, hc⟩ := o2 x hm
    exact lookup_ex (List.mem_append_left cl hc)
   rcases h with h | h
   ·rcases relabel_mem h with h | ⟨h, _⟩
    ·exact fromCell h
    ·exact fromFree h
   ·rcases relabel_mem h with h | ⟨h, e⟩
    ·exact fromFree h
    ·cases e
  ·have h2 : (own ++ cl).lookup x = some c := eo ▸ h2
   have hc : scope.names.lookup x = some .cell := by
    have : (scope.names.lookup x == some NameKind.cell) = true := h1
    simpa using this
   rcases cases_ x c h2 with ⟨l1, m1⟩ | e1
   ·exact Nat.le_of_succ_le l1
   ·-- x is one of the block's own: its cell stands ahead
    obtain ⟨c', hc'⟩ := o2 x (mem_of_lookup hc)
    obtain ⟨c2, hc2⟩ := lookup_ex hc'
    have : (own ++ cl).lookup x = some c2 := by
     have gen : ∀ l : List (Str × Addr), l.lookup x = some c2 → (l ++ cl).lookup x = some c2 := by
      intro l
      induction l with
      | nil => intro h; cases h
      | cons p r ih =>
       obtain ⟨y, j⟩ := p
       intro h
       rw [List.cons_append, List.lookup_cons]
       rw [List.lookup_cons] at h
       cases hb : x == y with
       | true => rw [hb] at h; exact h
       | false => rw [hb] at h; exact ih h
     exact gen own hc2
    rw [this] at h2
    cases h2
    exact Nat.le_of_succ_le (o1 _ (mem_of_lookup hc2)).1
  ·obtain ⟨o, e⟩ := ho b hb
   exact Nat.ne_of_lt (Heap.lt_size e)
  ·have h : (own ++ cl).lookup x = some c := eo ▸ h
   obtain ⟨o, e⟩ := ho b hb
   have hlt := Heap.lt_size e
   rcases cases_ x c h with ⟨l1, m1⟩ | e1
   ·intro z
    rw [z] at l1
    exact absurd (Nat.lt_of_lt_of_le hlt (Nat.le_of_succ_le l1)) (Nat.lt_irrefl _)
   ·exact (hf b hb).2.2.2.2.1 x c e1
  ·rcases (hf b hb).2.2.2.1 with z | z
   ·exact I.ok.noex b o e z
   ·exact absurd (Nat.lt_of_lt_of_le (Heap.lt_size e) (Nat.le_trans I.ok.bsz z)) (Nat.lt_irrefl _)
 refine ⟨ok, rfl, I.bare, Un.kept keep, ⟨fun _ => none, (Heap.Ns.new s.heap (.type "dict")).keeps (pushCells_keeps _ _), fun i x v e1 e2 e3 => ?_⟩, fun x c h => ?_, I.hok.fresh (Nat.le_refl _), fun x c h => ?_, fun p hp => ?_, I.hok.kept keep, ?_⟩
 ·-- a name of the code around
  have hlen := I.len
  have hi : i < σ.length := by
   rcases Nat.lt_or_ge i σ.length with h | h
   ·exact h
   ·rw [List.getElem?_append_right h] at e2
    rw [List.getElem?_replicate] at e2
    split at e2 <;> cases e2
  rw [List.getElem?_append_left hi] at e2
  have hmem : ∃ k, (x, k) ∈ scope.names := by
   have : ∃ k, (relabel scope X.env).names.lookup x = some k := by
    rcases e3 with h | h | h <;> exact ⟨_, h⟩
   obtain ⟨k, h⟩ := this
   rcases relabel_mem h with h | ⟨h, _⟩ <;> exact ⟨_, h⟩
  have hfree := T.hid i x (by omega) e1 hmem
  have eX := T.same i x (by omega) e1 hfree
  have kX := T.free x hfree
  obtain ⟨m, hn, hl⟩ := I.loc
  obtain ⟨u, ru, lk⟩ := hl i x v eX e2 (by rcases kX with h | h; exact .inr (.inl h); exact .inr (.inr h))
  refine ⟨u, ru, .inr ⟨?_, ?_⟩⟩
  ·-- its kind in the block
   have : ∃ k, (relabel scope X.env).names.lookup x = some k := by
    rcases e3 with h | h | h <;> exact ⟨_, h⟩
   obtain ⟨k, h⟩ := this
   rcases relabel_mem h with h' | ⟨h', e⟩
   ·have e5 := lookup_mem T.nd h'
    have e6 := lookup_mem T.nd hfree
    rw [e5] at e6
    cases e6
    exact .inr h
   ·subst e; exact .inl h
  ·rcases lk with ⟨k1, _⟩ | ⟨_, c, hc, z⟩
   ·rcases kX with h | h <;> rw [h] at k1 <;> cases k1
   ·refine ⟨c, ?_, z.keeps keep⟩
    show (cellsFrom (s.heap.objs.size + 1) scope.names cl).lookup x = some c
    rw [eo, lookup_append fun p hp e => ?_]
    ·obtain ⟨c', hc'⟩ := hfr x hfree
     obtain ⟨c2, hc2⟩ := lookup_ex hc'
     have := hcl _ (mem_of_lookup hc2)
     rw [hc] at this
     cases this
     exact hc2
    ·have e5 := lookup_mem T.nd (o1 p hp).2
     rw [e] at e5
     have e6 := lookup_mem T.nd hfree
     rw [e5] at e6
     cases e6
 ·have h : (own ++ cl).lookup x = some c := eo ▸ h
  rcases cases_ x c h with ⟨l1, m1⟩ | e1
  ·exact ⟨none, (okc.empty x c (eown ▸ m1)).1⟩
  ·obtain ⟨v, z⟩ := I.cell x c e1
   exact ⟨v, z.keeps keep⟩
 ·have h : (own ++ cl).lookup x = some c := eo ▸ h
  rcases cases_ x c h with ⟨l1, m1⟩ | e1
  ·exact I.hok.fresh (Nat.le_of_succ_le l1)
  ·exact I.freeC x c e1
 ·rw [List.append_nil] at hp
  obtain ⟨e, n, ne, nf, d⟩ := I.pin p hp
  refine ⟨keep _ _ e, n, Nat.ne_of_lt (Heap.lt_size e), fun z => ?_, d⟩
  rcases List.mem_cons.mp (I.stkSub p.1 z) with z | z
  ·exact ne z
  ·exact nf z
 ·show (σ ++ List.replicate (N'.length - X.N.length) none).length = N'.length
  rw [List.length_append, List.length_replicate, I.len]
  have := T.len
  omega
theorem cy_end {σ1 : St} {H1 : Hp} {s1 : Shared} {h' : Heap} {pins1 : List (Addr × Obj)} (I : Inv X pins σ H s) (hf : ∀ b ∈ fp, FpOk X pins H b) (I1 : Inv (cyOf X N' scope cl s H fp pins) pins1 σ1 H1 s1) (hs : Heap.SameBut s.heap.objs.size s1.heap h') :
  Inv X pins σ H1 { s1 with heap := h' } := by
 have hC : ∀ b o, s.heap.get? b = some o → b ≠ s.heap.objs.size := fun b o e => Nat.ne_of_lt (Heap.lt_size e)
 have u := I1.base
 have u2 : Un (frs X.stack) fp H H1 s.heap h' := by
  refine ⟨fun b o e n hb hx => ?_, fun b o e n hb hx => ?_, u.free, fun b o e hx => ?_, u.tups, u.frzs, u.tbls⟩
  ·rw [hs.2 b (hC b o e)]; exact u.keep b o e n hb hx
  ·obtain ⟨sl, q⟩ := u.slot b o e n hb hx
   exact ⟨sl, by rw [hs.2 b (hC b o e)]; exact q⟩
  ·obtain ⟨o', q⟩ := u.there b o e hx
   exact ⟨o', by rw [hs.2 b (hC b o e)]; exact q⟩
 have hCf : H1 s.heap.objs.size = none := I1.free
 refine I.call' (s' := { s1 with heap := h' }) I1.os u2 (fun b o e => ?_) I1.bare fun b hb => ⟨(hf b hb).2.2.2.1, (hf b hb).2.1, (hf b hb).2.2.2.2.1, (hf b hb).2.2.2.2.2⟩
 refine (I1.hok b o e).stay (fun c v hc q => (hs.2 c ?_).trans q) (fun _ q => q) fun _ _ q => q
 rintro rfl
 rcases hc with z | z
 ·rw [← z, hCf] at e; cases e
 ·rw [hCf] at z; cases z
noncomputable def PIf (X : Cx) (ifs : List Expr) (t : TT) : Prop :=
 ∀ (pins : List (Addr × Obj)) (s : Shared) (σ : St) (H : Hp) (Q : Bool → Hp → Prop), Inv X pins σ H s → t σ H Q →
  wpAny (model X.prog X.w) X.A (forIn ifs true fun c r => if r = true then do let ok ← isTrue c X.env (eval c X.env); pure (ForInStep.yield ok) else pure (ForInStep.yield r)) (TP X pins σ Q) X.xe s
theorem pif_nil : PIf X [] (fun _ H Q => Q true H) := fun pins s σ H Q I h => wpAny_tests_nil ⟨H, I, h⟩
theorem pif_one {c : Expr} {t : TT} (h : PT X c t) : PIf X [c] t := fun pins s σ H Q I h' => wpAny_tests_one (h pins s σ H Q I h')
noncomputable def tLc (k : Nat) (wi : TI) (g : TG) (tt : TT) (te : TE) : TE := fun σ H Q => wi σ H fun J H1 => ∀ p, H1 p = none →
 ∃ W : Nat → Nat → St → Hp → Prop, (∃ m, W 0 m (σ ++ List.replicate k none) (upd H1 p (.lst []))) ∧ ∀ i m σ' H', W i m σ' H' →
  (J.stop i H' ∧ Q (.ref p) H') ∨ (J.go i H' ∧ ∀ x H2, J.yld i H' x H2 → g x σ' H2 fun σ2 H3 => tt σ2 H3 fun ok H4 => if ok = true then
   te σ2 H4 fun y H5 => ∃ ys, H5 p = some (.lst ys) ∧ ys.length < sizeLine ∧ ∃ m', m' < m ∧ W (i + 1) m' σ2 (upd H5 p (.lst (ys ++ [y])))
   else ∃ m', m' < m ∧ W (i + 1) m' σ2 H4)
theorem compLoop_any {prog : Program} {w : World} {A : Around} {R : Result → Shared → Prop} {s : Shared} {elt target iter : Expr} {ifs : List Expr} {scope : Scope} {pos : Pos} {it acc : Value} {env : Env} (I : Nat → Shared → Prop)
  (turn : ∀ n s, I n s → wpAny (model prog w) A (pyNext it) (fun r s₁ => match r with
   | none => R (.ok .next) s₁
   | some v => wpAny (model prog w) A (letOwnedTupleGo target it v) (fun _ s₁' => wpAny (model prog w) A (assign target env v) (fun _ s₂ =>
     wpAny (model prog w) A (forIn ifs true fun c r => if r = true then do let ok ← isTrue c env (eval c env); pure (ForInStep.yield ok) else pure (ForInStep.yield r)) (fun ok s₃ =>
      if ok = true then wpAny (model prog w) A (eval elt env) (fun x s₄ =>
       wpAny (model prog w) A (call (.builtin "list.append") [acc, x]) (fun _ s₅ => ∃ m, m < n ∧ I m s₅) (fun _ _ => False) s₄) (fun _ _ => False) s₃
      else ∃ m, m < n ∧ I m s₃) (fun _ _ => False) s₂) (fun _ _ => False) s₁') (fun _ _ => False) s₁) (fun _ _ => False) s)
  (n : Nat) (h : I n s) : codeAny (model prog w) A (.compLoop (.ListComp elt [⟨target, iter, ifs, 0⟩] scope pos) 0 it acc env) R s := by
 refine codeAny_loop rfl I (fun n s hI => ?_) n h
 show wpAny _ A ((compTurn (.ListComp elt [⟨target, iter, ifs, 0⟩] scope pos) 0 it acc env).onRaise (fun x => do noteFrame x env; theTreesLotGoes x)) _ _ s
 refine wpAny_noted ?_
 rw [compTurn_list]
 refine wpAny_bind (wpAny_standAt (wpAny_bind (wpAny_mono (turn n s hI) (fun r s₁ h₁ => ?_) fun _ _ h' => h'.elim)))
 cases r with
 | none => exact wpAny_pure h₁
 | some v =>
  refine wpAny_bind (wpAny_mono h₁ (fun _ s₁' h₁' => ?_) fun _ _ h' => h'.elim)
  refine wpAny_bind (wpAny_mono h₁' (fun _ s₂ h₂ => wpAny_bind (wpAny_mono h₂ (fun ok s₃ h₃ => ?_) fun _ _ h' => h'.elim)) fun _ _ h' => h'.elim)
  cases ok with
  | false => exact wpAny_pure ⟨rfl, h₃⟩
  | true =>
   exact wpAny_bind (wpAny_bind (wpAny_mono h₃ (fun x s₄ h₄ => wpAny_bind (wpAny_mono h₄ (fun _ s₅ h₅ => wpAny_pure (wpAny_pure ⟨rfl, h₅⟩)) fun _ _ h' => h'.elim)) fun _ _ h' => h'.elim))
theorem lc_block {elt iter tg : Expr} {ifs : List Expr} {pos : Pos} {g : TG} {tt : TT} {te : TE} {J : It} {it : Addr} {tn : Nat → Heap → Prop} {Q : VK} {E : Value → Shared → Prop} {RR : Value → Addr → Result → Shared → Prop}
  (hc : X.calm = true) (T : CyOk X N' scope) (hcl : ∀ p ∈ cl, X.env.cells.lookup p.1 = some p.2) (hfr : ∀ x, (x, NameKind.free) ∈ scope.names → ∃ c, (x, c) ∈ cl)
  (hg : ∀ cl s H fp pins, PG (cyOf X N' scope cl s H fp pins) tg g) (ht : ∀ cl s H fp pins, PIf (cyOf X N' scope cl s H fp pins) ifs tt) (he : ∀ cl s H fp pins, PE (cyOf X N' scope cl s H fp pins) elt te)
  (I : Inv X pins σ H s) (Tn : Turn X.prog X.w X.K tg J fp it tn) (st0 : tn 0 s.heap) (hf : ∀ b ∈ fp, FpOk X pins H b)
  (h : ∀ p, H p = none → ∃ W : Nat → Nat → St → Hp → Prop, (∃ m, W 0 m (σ ++ List.replicate (N'.length - X.N.length) none) (upd H p (.lst []))) ∧ ∀ i m σ' H', W i m σ' H' →
   (J.stop i H' ∧ Q (.ref p) H') ∨ (J.go i H' ∧ ∀ x H2, J.yld i H' x H2 → g x σ' H2 fun σ2 H3 => tt σ2 H3 fun ok H4 => if ok = true then
    te σ2 H4 fun y H5 => ∃ ys, H5 p = some (.lst ys) ∧ ys.length < sizeLine ∧ ∃ m', m' < m ∧ W (i + 1) m' σ2 (upd H5 p (.lst (ys ++ [y])))
    else ∃ m', m' < m ∧ W (i + 1) m' σ2 H4))
  (hRR : ∀ p C s1 H1, Inv X pins σ H1 s1 → Q (.ref p) H1 → (∃ m, s1.heap.Ns C m) → H1 C = none → s.heap.objs.size ≤ C → RR (.ref p) C (.ok .next) s1) :
  wpAny (model X.prog X.w) X.A (newList []) (fun acc s₃ => wpAny (model X.prog X.w) X.A (newFunctionEnv scope X.env.globals cl [] X.env.qual none .none (some X.env)) (fun cenv s₄ =>
   codeAny (model X.prog X.w) X.A (.compStart (.ListComp elt [⟨tg, iter, ifs, 0⟩] scope pos) 0 (.ref it) acc { cenv with scope := relabel scope X.env }) (RR acc cenv.locals) s₄) E s₃) E s := by
 refine wpAny_newObj_type (nfe_comp ?_)
 have hp : H s.heap.objs.size = none := I.fresh
 obtain ⟨W, ⟨m0, w0⟩, turn⟩ := h _ hp
 have I2 : Inv X pins σ (upd H s.heap.objs.size (.lst [])) { s with heap := s.heap.push { cls := .type "list", data := .seq ([] : List Value).toArray } } := Inv.lnew (t' := s.toks) (its := []) (ys := []) I .nil (Nat.zero_le _)
 have hf2 : ∀ b ∈ fp, FpOk X pins (upd H s.heap.objs.size (.lst [])) b := fun b hb => by
  obtain ⟨o, e, _⟩ := Tn.obj _ _ st0 b hb
  exact ⟨by rw [upd_ne (Nat.ne_of_lt (Heap.lt_size e))]; exact (hf b hb).1, (hf b hb).2⟩
 have ho2 : ∀ b ∈ fp, ∃ o, (s.heap.push { cls := .type "list", data := .seq ([] : List Value).toArray } : Heap).get? b = some o := fun b hb => by
  obtain ⟨o, e, _⟩ := Tn.obj _ _ st0 b hb
  exact ⟨o, Heap.get?_push_of_some _ e⟩
 have I3 := cy_start T I2 hcl hfr hf2 ho2
 have st3 : tn 0 (pushCells ((s.heap.push { cls := .type "list", data := .seq ([] : List Value).toArray }).push { cls := .type "dict", data := .dict #[] }) scope.names) :=
  Tn.keep _ _ _ st0 fun b hb o e => pushCells_keeps _ _ b o (Heap.get?_push_of_some _ (Heap.get?_push_of_some _ e))
 generalize hs2 : ({ s with heap := s.heap.push { cls := .type "list", data := .seq ([] : List Value).toArray } } : Shared) = s2 at I2 I3
 have hC : s.heap.objs.size ≤ s2.heap.objs.size := by rw [← hs2]; exact Nat.le_of_lt (by show _ < (s.heap.push _).objs.size; rw [Heap.size_push]; exact Nat.lt_succ_self _)
 have stat : ∀ {H' : Hp}, (∀ b ∈ fp, H' b = none) → ∀ b ∈ fp, FpOk (cyOf X N' scope cl s2 (upd H s.heap.objs.size (.lst [])) fp pins) [] H' b := fun {H'} hn b hb => by
  refine ⟨hn b hb, (I3.ok.exf b hb).1, I3.ok.exfs b hb, .inl hb, (I3.ok.exf b hb).2, fun p hp => ?_⟩
  rw [List.append_nil] at hp
  exact (hf b hb).2.2.2.2.2 p hp
 have loop : ∀ s4, s4 = ({ s2 with heap := pushCells (s2.heap.push { cls := .type "dict", data := .dict #[] }) scope.names } : Shared) →
   codeAny (model X.prog X.w) X.A (.compLoop (.ListComp elt [⟨tg, iter, ifs, 0⟩] scope pos) 0 (.ref it) (.ref s.heap.objs.size) (cyOf X N' scope cl s2 (upd H s.heap.objs.size (.lst [])) fp pins).env) (RR (.ref s.heap.objs.size) s2.heap.objs.size) s4 := by
  rintro s4 rfl
  refine compLoop_any (fun n s' => ∃ i σ' H', Inv (cyOf X N' scope cl s2 (upd H s.heap.objs.size (.lst [])) fp pins) [] σ' H' s' ∧ tn i s'.heap ∧ (∀ b ∈ fp, H' b = none) ∧ W i n σ' H') ?_ m0
   ⟨0, _, _, I3, by subst hs2; exact st3, fun b hb => (hf2 b hb).1, w0⟩
  rintro n s3 ⟨i, σ3, H3, I4, st4, fr4, w4⟩
  rcases turn i n σ3 H3 w4 with ⟨stop, qn⟩ | ⟨go, step⟩
  ·refine thn (Tn.done (cyOf X N' scope cl s2 (upd H s.heap.objs.size (.lst [])) fp pins) rfl rfl rfl hc i [] s3 σ3 H3 (fun _ _ => False) I4 (stat fr4) st4 stop) fun r s5 ⟨hr, I5⟩ => ?_
   subst hr
   obtain ⟨m, hn, _⟩ := I5.loc
   exact hRR _ _ s5 H3 (cy_end I2 hf2 I5 (Heap.SameBut.refl _ _)) qn ⟨m, hn⟩ I5.free hC
  ·refine thn (Tn.item (cyOf X N' scope cl s2 (upd H s.heap.objs.size (.lst [])) fp pins) rfl rfl rfl hc i [] s3 σ3 H3 (fun _ _ => False) I4 (stat fr4) st4 go) fun r s5 ⟨u, hr, h5⟩ => ?_
   subst hr
   refine thn h5 fun _ s6 ⟨x, H6, I6, r6, y6, st6, fr6⟩ => ?_
   have I6' := I6.pinned (stat fr6) (Tn.obj _ _ st6)
   have again : ∀ {σ7 : St} {H7 : Hp} {s7 : Shared} {m' : Nat}, Inv (cyOf X N' scope cl s2 (upd H s.heap.objs.size (.lst [])) fp pins) ([] ++ pinsAt fp s6.heap) σ7 H7 s7 → m' < n → W (i + 1) m' σ7 H7 →
     ∃ m, m < n ∧ ∃ i σ' H', Inv (cyOf X N' scope cl s2 (upd H s.heap.objs.size (.lst [])) fp pins) [] σ' H' s7 ∧ tn i s7.heap ∧ (∀ b ∈ fp, H' b = none) ∧ W i m σ' H' := fun {σ7 H7 s7 m'} I7 hm w7 => by
    refine ⟨m', hm, i + 1, σ7, H7, I7.unpinned, Tn.keep _ _ _ st6 fun b hb o e => (I7.pin (b, o) (List.mem_append_right _ (List.mem_append_right _ (mem_pinsAt hb e)))).1, fun b hb => ?_, w7⟩
    obtain ⟨o, e, d⟩ := Tn.obj _ _ st6 b hb
    exact (I7.pin (b, o) (List.mem_append_right _ (List.mem_append_right _ (mem_pinsAt hb e)))).2.1
   refine thn (hg _ _ _ _ _ _ s6 σ3 H6 x u _ I6' r6 (step x H6 y6)) fun _ s7 ⟨σ7, H7, I7, q7⟩ => ?_
   refine thn (ht _ _ _ _ _ _ s7 σ7 H7 _ I7 q7) fun ok s8 ⟨H8, I8, q8⟩ => ?_
   cases ok with
   | false =>
    simp only [Bool.false_eq_true, if_false] at q8 ⊢
    obtain ⟨m', hm, w8⟩ := q8
    exact again I8 hm w8
   | true =>
    simp only [if_true] at q8 ⊢
    refine thn (he _ _ _ _ _ _ s8 σ7 H8 _ I8 q8) fun y s9 ⟨yv, H9, I9, r9, ys, e9, l9, m', hm, w9⟩ => ?_
    refine thn (mt_append _ s9 σ7 H9 (.ref s.heap.objs.size) [yv] (.ref s.heap.objs.size) [y] (fun _ H' => H' = upd H9 s.heap.objs.size (.lst (ys ++ [yv]))) I9 rfl (.cons r9 .nil) ⟨_, ys, yv, rfl, rfl, e9, l9, rfl⟩) fun _ s10 ⟨_, H10, I10, _, e10⟩ => ?_
    subst e10
    exact again I10 hm w9
 have st5 : tn 0 (pushCells (s2.heap.push { cls := .type "dict", data := .dict #[] }) scope.names) := by subst hs2; exact st3
 have fin := codeAny_compStart_list (loop _ rfl) (Tn.self X.A 0 _ _ (notedBy (model X.prog X.w) X.A (cyOf X N' scope cl s2 (upd H s.heap.objs.size (.lst [])) fp pins).env fun x s' => RR (.ref s.heap.objs.size) s2.heap.objs.size (.error x) s') st5 (loop _ rfl))
 subst hs2
 exact fin
end
end L2
namespace L2
open PySem PySem.Spec PyProof.Rows
section
variable {X : Cx} {N' : List Str} {scope : Scope} {pins : List (Addr × Obj)} {σ : St} {elt iter tg : Expr} {ifs : List Expr} {pos : Pos} {wi : TI} {g : TG} {tt : TT} {te : TE}
theorem lc_names (T : CyOk X N' scope) : ∀ x ∈ scope.names, x.2 = .local → scope.names.lookup x.1 = some .local := fun x hx e => by
 obtain ⟨n, k⟩ := x
 cases e
 exact lookup_mem T.nd hx
theorem pe_lc (hc : X.calm = true) (T : CyOk X N' scope) (hi : PI X tg iter wi) (hg : ∀ cl s H fp pins, PG (cyOf X N' scope cl s H fp pins) tg g) (ht : ∀ cl s H fp pins, PIf (cyOf X N' scope cl s H fp pins) ifs tt)
  (he : ∀ cl s H fp pins, PE (cyOf X N' scope cl s H fp pins) elt te) (hs : ∀ x, foldedSetIterable iter X.env x = pure x := by intro _; rfl) :
  PE X (.ListComp elt [⟨tg, iter, ifs, 0⟩] scope pos) (tLc (N'.length - X.N.length) wi g tt te) := by
 intro pins s σ H Q I h
 obtain ⟨cl, hclos, hcl, hfr⟩ := closure_ok (scope := scope) (env := X.env) fun x hx => I.ok.has x (T.free x hx)
 rw [eval_ListComp]
 refine wpAny_comprehension_free (use := none) rfl hs hclos T.kind (lc_names T) (wpAny_mono (hi pins s σ H _ I h) (fun xv s1 h1 => wpAny_mono h1 (fun itv s2 h2 => ?_) fun _ _ e => e) fun _ _ e => e)
 obtain ⟨it, fp, tn, J, H2, rfl, I2, Tn, st2, f2, R⟩ := h2
 refine lc_block (Q := Q) (RR := fun acc C => compPost (model X.prog X.w) X.A X.xe none (EP X pins σ Q) acc C) hc T hcl hfr hg ht he I2 Tn st2 f2 R ?_
 rintro p C s3 H3 I3 q ⟨m, hn⟩ hC hle
 refine ⟨m, hn, fun h' hs' => ⟨.ref p, H3, ?_, rfl, q⟩⟩
 refine I3.turned (t' := s3.toks) (it := C) (fun b o hb e => (hs'.2 b hb).trans e) hC ?_ (.inr (Nat.le_trans I2.sz hle)) (fun x c e => ?_) fun p hp => ?_
 ·exact Ne.symm (Nat.ne_of_lt (Nat.lt_of_lt_of_le I2.lt hle))
 ·obtain ⟨v, z⟩ := I2.cell x c e
  exact Nat.ne_of_lt (Nat.lt_of_lt_of_le z.lt hle)
 ·exact Nat.ne_of_lt (Nat.lt_of_lt_of_le (Heap.lt_size (I2.pin p hp).1) hle)
theorem ps_set_lc {i : Nat} {y : Str} {py spos : Pos} (hN : X.N.Nodup) (hiN : X.N[i]? = some y) (hx : Loc X.env.scope y) (hsw : swapsWith (.ListComp elt [⟨tg, iter, ifs, 0⟩] scope pos) (some (.Name y py)) spos.line X.env = pure true)
  (hc : X.calm = true) (T : CyOk X N' scope) (hi : PI X tg iter wi) (hg : ∀ cl s H fp pins, PG (cyOf X N' scope cl s H fp pins) tg g) (ht : ∀ cl s H fp pins, PIf (cyOf X N' scope cl s H fp pins) ifs tt)
  (he : ∀ cl s H fp pins, PE (cyOf X N' scope cl s H fp pins) elt te) (hs : ∀ x, foldedSetIterable iter X.env x = pure x := by intro _; rfl) (hf : X.fn y = true ∨ X.env.scope.names.lookup y = some .local := by first | exact .inl rfl | exact .inr rfl | assumption) :
  PS X (.Assign [.Name y py] (.ListComp elt [⟨tg, iter, ifs, 0⟩] scope pos) spos) (tAsg (tLc (N'.length - X.N.length) wi g tt te) (gName i)) := by
 intro pins s σ H D I h
 obtain ⟨cl, hclos, hcl, hfr⟩ := closure_ok (scope := scope) (env := X.env) fun x hx => I.ok.has x (T.free x hx)
 rw [exec_Assign_Name_used _ _ _ _ hsw]
 refine wpAny_bind (wpAny_standAt (wpAny_bind ?_))
 show wpAny _ X.A (do let _ ← comprehension (.ListComp elt [⟨tg, iter, ifs, 0⟩] scope pos) scope X.env _ (newList []) false (eval iter X.env) (some (assign (.Name y py) X.env))) _ _ s
 refine wpAny_bind (wpAny_mono (wpAny_comprehension_free (use := some (assign (.Name y py) X.env)) (Q := fun _ s' => SP X pins D .next s') rfl hs hclos T.kind (lc_names T)
  (wpAny_mono (hi pins s σ H _ I h) (fun xv s1 h1 => wpAny_mono h1 (fun itv s2 h2 => ?_) fun _ _ e => e) fun _ _ e => e)) (fun _ s' hq => wpAny_pure (wpAny_pure hq)) fun _ _ e => e)
 obtain ⟨it, fp, tn, J, H2, rfl, I2, Tn, st2, f2, R⟩ := h2
 refine lc_block (Q := fun x H1 => gName i x σ H1 D.nx) (RR := fun acc C => compPost (model X.prog X.w) X.A X.xe (some (assign (.Name y py) X.env)) (fun _ s' => SP X pins D .next s') acc C) hc T hcl hfr hg ht he I2 Tn st2 f2 R ?_
 rintro p C s3 H3 I3 q ⟨m, hn⟩ hC hle
 have hCL : C ≠ X.env.locals := Ne.symm (Nat.ne_of_lt (Nat.lt_of_lt_of_le I2.lt hle))
 have hCc : ∀ x c, X.env.cells.lookup x = some c → c ≠ C := fun x c e => by
  obtain ⟨v, z⟩ := I2.cell x c e
  exact Nat.ne_of_lt (Nat.lt_of_lt_of_le z.lt hle)
 show wpAny _ X.A (assign (.Name y py) X.env (.ref p)) _ _ _
 refine wpAny_assign_Name (store_ok2 (v := .ref p) I3 hN hiN hx rfl (fun s4 I4 ⟨a, sb, ha⟩ => ?_) hf)
 have hne : C ≠ a := by
  rcases ha with e | e
  ·rw [e]; exact hCL
  ·exact (hCc _ _ e).symm
 refine ⟨m, hn.sameBut sb hne, fun h' hs' => ⟨_, H3, ?_, q⟩⟩
 refine I4.turned (t' := s4.toks) (it := C) (fun b o hb e => (hs'.2 b hb).trans e) hC hCL (.inr (Nat.le_trans I2.sz hle)) hCc fun p hp => ?_
 exact Nat.ne_of_lt (Nat.lt_of_lt_of_le (Heap.lt_size (I2.pin p hp).1) hle)
theorem PI_imp {t t' : TI} (h : PI X tg iter t) (i : ∀ σ H R, t' σ H R → t σ H R) : PI X tg iter t' := fun pins s σ H R I h' => h pins s σ H R I (i σ H R h')
end
end L2
namespace DD
open PySem PySem.Spec PyProof.Rows L2
structure ItD (K : PySem.W.Frag) (J : It) (xs : List D) (F : Addr → Prop) (H : Hp) : Prop where
 item : ∀ i d F1 H1, Ext F H F1 H1 → (∀ a, F1 a → ∃ o, H1 a = some o) → xs[i]? = some d → J.go i H1 ∧ ∀ x H2, J.yld i H1 x H2 → ∃ F2, Grow F1 H1 F2 H2 ∧ Ow K F2 H2 d x []
 done : ∀ F1 H1, Ext F H F1 H1 → J.stop xs.length H1
noncomputable abbrev DI := DSt → Option (List D × DSt)
noncomputable def rIt (K : PySem.W.Frag) (c : DI) : TI := fun σ H R => ∃ F Ro σD xs σD', Rel K F H σD σ Ro ∧ c σD = some (xs, σD') ∧ ∀ F' H' J, Ext F H F' H' → Rel K F' H' σD' σ Ro → ItD K J xs F' H' → R J H'
noncomputable def QI (X : Cx) (tg iter : Expr) (c : DI) : Prop := PI X tg iter (rIt X.K c)
noncomputable def iLst (c : DE) : DI := fun σ => (c σ).bind fun p => match p.1 with | .lst _ xs => some (D.fzL xs, p.2) | _ => none
noncomputable def iR1 (c : DA) : DI := fun σ => (c σ).bind fun p => match p.1 with | [.int j] => if rOk j = true then some (rngD 0 j, p.2) else none | _ => none
noncomputable def iR2 (c : DA) : DI := fun σ => (c σ).bind fun p => match p.1 with | [.int i, .int j] => if (rOk i && rOk j) = true then some (rngD i j, p.2) else none | _ => none
section
variable {X : Cx} {tg e a b : Expr} {c : DE} {ca : DA} {p1 pos1 : Pos}
theorem itd_range {K : PySem.W.Frag} {F : Addr → Prop} {H : Hp} {lo hi : Int} : ItD K (Itr lo (hi - lo).toNat) (rngD lo hi) F H where
 item := fun i d F1 H1 _ _ e => by
  have hl : (rngD lo hi).length = (hi - lo).toNat := by simp [rngD]
  have hi' : i < (hi - lo).toNat := by rw [← hl]; exact (List.getElem?_eq_some_iff.mp e).1
  have ed : d = .int (lo + i) := by
   unfold rngD at e
   rw [List.getElem?_map, List.getElem?_range hi'] at e
   exact (Option.some.inj e).symm
  subst ed
  exact ⟨hi', fun x H2 hq0 => by obtain ⟨e1, e2⟩ := hq0; subst e1; subst e2; exact ⟨F1, Grow.refl, Ow.of_sc rfl⟩⟩
 done := fun F1 H1 _ => by show (hi - lo).toNat ≤ (rngD lo hi).length; simp [rngD]
theorem qi_r1 (hgl : Gl X "range") (hm : X.mg "range" = none) (ha : QA X [a] ca) (hs : starEach [a] X.env = [(false, eval a X.env)] := by rfl) : QI X tg (.Call (.Name "range" p1) [a] [] pos1) (iR1 ca) :=
 PI_imp (pi_range1 hgl hm ha hs) fun σ H R hq0 => by
  obtain ⟨F, Ro, σD, xs, σD', r, ec, k⟩ := hq0
  unfold iR1 at ec
  rcases h : ca σD with _ | ⟨ys, σ1⟩
  ·rw [h] at ec; cases ec
  ·rw [h] at ec; simp only [bind_some] at ec
   refine ⟨F, Ro, σD, ys, σ1, r, h, fun F1 H1 vs x1 hl r1 => ?_⟩
   split at ec
   ·rename_i j
    split at ec
    ·rename_i hj
     cases ec
     match vs, hl with
     | [v], _ =>
      have hv : v = .int j := (r1.bor (d := .int j) (v := v) (by simp)).int
      subst hv
      unfold rOk at hj
      simp only [decide_eq_true_eq] at hj
      have q : ItD X.K (Itr 0 (j - 0).toNat) (rngD 0 j) F1 H1 := itd_range
      rw [Int.sub_zero] at q
      exact ⟨j, rfl, hj.1, hj.2, k F1 H1 _ x1 (r1.popN (S := [(D.int j, V.int j)])) q⟩
    ·cases ec
   ·cases ec
theorem qi_r2 (hgl : Gl X "range") (hm : X.mg "range" = none) (ha : QA X [a, b] ca) (hs : starEach [a, b] X.env = [(false, eval a X.env), (false, eval b X.env)] := by rfl) (hs2 : starEach [b] X.env = [(false, eval b X.env)] := by rfl) : QI X tg (.Call (.Name "range" p1) [a, b] [] pos1) (iR2 ca) :=
 PI_imp (pi_range2 hgl hm ha hs hs2) fun σ H R hq0 => by
  obtain ⟨F, Ro, σD, xs, σD', r, ec, k⟩ := hq0
  unfold iR2 at ec
  rcases h : ca σD with _ | ⟨ys, σ1⟩
  ·rw [h] at ec; cases ec
  ·rw [h] at ec; simp only [bind_some] at ec
   refine ⟨F, Ro, σD, ys, σ1, r, h, fun F1 H1 vs x1 hl r1 => ?_⟩
   split at ec
   ·rename_i i j
    split at ec
    ·rename_i hj
     cases ec
     match vs, hl with
     | [v, u], _ =>
      have hv : v = .int i := (r1.bor (d := .int i) (v := v) (by simp)).int
      have hu : u = .int j := (r1.bor (d := .int j) (v := u) (by simp)).int
      subst hv; subst hu
      unfold rOk at hj
      simp only [Bool.and_eq_true, decide_eq_true_eq] at hj
      exact ⟨i, j, rfl, ⟨hj.1.1, hj.1.2, hj.2.1, hj.2.2⟩, k F1 H1 _ x1 (r1.popN (S := [(D.int i, V.int i), (D.int j, V.int j)])) itd_range⟩
    ·cases ec
   ·cases ec
theorem itd_list {K : PySem.W.Frag} {F : Addr → Prop} {H : Hp} {xs : List D} {a : Addr} {vs : List V} (fl : FL K F H a vs) (ol : OwL K F H xs vs []) : ItD K (Itl K a) xs F H where
 item := fun i d F1 H1 x1 _ e => by
  obtain ⟨w, La, Lx, Lb, e1, eL, o, _⟩ := ol.kid e
  have eLx : Lx = [] := (List.append_eq_nil_iff.mp (List.append_eq_nil_iff.mp eL.symm).1).2
  subst eLx
  refine ⟨⟨vs, w, (fl.ext x1).sq, e1⟩, fun x H2 ⟨e2, hx⟩ => ?_⟩
  subst e2
  have := hx vs (fl.ext x1).sq
  rw [e1] at this
  cases this
  exact ⟨F1, Grow.refl, o.mono x1 (fun a ha => by cases ha)⟩
 done := fun F1 H1 x1 => ⟨vs, (fl.ext x1).sq, by rw [ol.length]; exact Nat.le_refl _⟩
theorem qi_lst (he : QE X e c) : QI X tg e (iLst c) := PI_imp (pi_list he) fun σ H R hq0 => by
 obtain ⟨F, Ro, σD, xs, σD', r, ec, k⟩ := hq0
 unfold iLst at ec
 rcases h : c σD with _ | ⟨d, σ1⟩
 ·rw [h] at ec; cases ec
 ·rw [h] at ec; simp only [bind_some] at ec
  refine ⟨F, Ro, σD, d, σ1, r, h, fun F1 H1 v x1 r1 => ?_⟩
  split at ec
  ·cases ec
   obtain ⟨F2, x2, r2, o2⟩ := r1.freeze
   simp only [D.fz, Ow] at o2
   obtain ⟨a, vs, rfl, fl, ol, _⟩ := o2
   exact ⟨a, rfl, ⟨vs, fl.sq⟩, k F2 H1 _ (x1.trans x2) r2.pop (itd_list fl ol)⟩
  ·cases ec
end
noncomputable def sForI (c : DI) (g : DG) (b : DS) : DS := fun σ => (c σ).bind fun p => dLoop g b p.1 p.2
section
variable {X : Cx} {e tg : Expr} {g : DG} {s : DS} {pos : Pos} {W W' : List Nat} {body : List Stmt}
theorem it_loop {F : Addr → Prop} {H : Hp} {R : Ro} {σD : DSt} {σ : St} {xs : List D} {J : It} {En : Ends} {o : Out} (r : Rel X.K F H σD σ R) (j : ItD X.K J xs F H) (h : dLoop g s xs σD = some o)
  (k : ∀ F' H' σ', Ext F H F' H' → Kp (W ++ W') σ σ' → Th X.K En R F' H' σ' o) :
  ∃ W1 : Nat → Nat → St → Hp → Prop, (∃ m, W1 0 m σ H) ∧ ∀ i m σ H, W1 i m σ H →
   (J.stop i H ∧ En.nx σ H) ∨ (J.go i H ∧ ∃ N : St → Hp → Prop, (∀ σ' H', N σ' H' → ∃ m', m' < m ∧ W1 (i + 1) m' σ' H') ∧ ∀ x H', J.yld i H x H' → rG X.K g W x σ H' fun σ2 H2 => rS X.K s W' { En with nx := N, ct := N, bk := En.nx } σ2 H2) := by
 refine ⟨fun i m σ1 H1 => m = xs.length - i ∧ i ≤ xs.length ∧ ∃ F1 σD1, Ext F H F1 H1 ∧ Kp (W ++ W') σ σ1 ∧ Rel X.K F1 H1 σD1 σ1 R ∧ dLoop g s (xs.drop i) σD1 = some o, ⟨_, rfl, Nat.zero_le _, F, σD, Ext.refl, Kp.refl, r, by simpa using h⟩, ?_⟩
 rintro i m σ1 H1 ⟨rfl, hle, F1, σD1, x1, kp1, r1, h1⟩
 rcases Nat.lt_or_ge i xs.length with hi | hi
 ·right
  obtain ⟨go, yl⟩ := j.item i _ F1 H1 x1 r1.g.dom (List.getElem?_eq_getElem hi)
  refine ⟨go, fun σ' H' => ∃ F1 σD1, Ext F H F1 H' ∧ Kp (W ++ W') σ σ' ∧ Rel X.K F1 H' σD1 σ' R ∧ dLoop g s (xs.drop (i + 1)) σD1 = some o, fun σ' H' q => ⟨xs.length - (i + 1), by omega, rfl, hi, q⟩, fun x H2 hy => ?_⟩
  obtain ⟨F2, gr, ox⟩ := yl x H2 hy
  rw [List.drop_eq_getElem_cons hi] at h1
  exact turn_of (R := R) (R0 := R) (W := W) (W' := W') (fun _ _ _ _ _ _ h => h) ((r1.grow gr).push ox) (x1.trans gr.x) kp1 h1 k fun F3 H3 σD3 σ3 x3 kp3 r3 h3 => ⟨F3, σD3, (x1.trans gr.x).trans x3, kp3, r3, h3⟩
 ·left
  have ei : i = xs.length := Nat.le_antisymm hle hi
  subst ei
  rw [List.drop_length] at h1
  simp only [dLoop] at h1
  cases h1
  exact ⟨j.done F1 H1 x1, k F1 H1 σ1 x1 kp1 r1⟩
theorem qs_forI {c : DI} (hc : X.calm = true) (hi : QI X tg e c) (hg : QG X tg g W) (hb : QSs X body s W') (hp : PassesOwn (model X.prog X.w) X.A X.env X.xe) (hf : ∀ x, foldedSetIterable e X.env x = pure x := by intro _; rfl) : QS X (.For tg e body [] pos) (sForI c g s) (W ++ W') :=
 PS_imp (ps_for hp hc hi hg hb hf) fun En σ H hq0 => by
  obtain ⟨F, R, σD, o, r, ec, k⟩ := hq0
  unfold sForI at ec
  rcases h : c σD with _ | ⟨xs, σ1⟩
  ·rw [h] at ec; cases ec
  ·rw [h] at ec; simp only [bind_some] at ec
   refine ⟨F, R, σD, xs, σ1, r, h, fun F1 H1 J x1 r1 j => ?_⟩
   exact it_loop (X := X) (W := W) (W' := W') (g := g) (s := s) (En := En) r1 j ec fun F2 H2 σ2 x2 kp => k F2 H2 σ2 (x1.trans x2) kp
end
noncomputable def lcGo (g : DG) (t : DT) (c : DE) : List D → DSt → Option (List D × DSt)
 | [], σ => some ([], σ)
 | x :: xs, σ => (g x σ).bind fun σ1 => (t σ1).bind fun p => if p.1 = true then (c p.2).bind fun q => (lcGo g t c xs q.2).map fun r => (q.1 :: r.1, r.2) else lcGo g t c xs p.2
noncomputable def dLc (k : Nat) (i : DI) (g : DG) (t : DT) (c : DE) : DE := fun σ => (i σ).bind fun p => if p.1.length ≤ sizeLine then (lcGo g t c p.1 (p.2 ++ List.replicate k none)).map fun r => (.lst true r.1, r.2.take p.2.length) else none
noncomputable def tTrue : DT := fun σ => some (true, σ)
noncomputable def QIf (X : Cx) (ifs : List Expr) (t : DT) : Prop := PIf X ifs (rT X.K t)
section
variable {X : Cx} {e tg elt iter : Expr} {ifs : List Expr} {g : DG} {t : DT} {c : DE} {i : DI} {pos : Pos} {W : List Nat} {N' : List Str} {scope : Scope}
theorem qif_nil : QIf X [] tTrue := fun pins s σ H Q I ⟨F, R, σD, b, σD', r, ec, k⟩ => pif_nil pins s σ H Q I (by cases ec; exact k F H Ext.refl r)
theorem qif_one (h : QT X e t) : QIf X [e] t := pif_one h
theorem Rel.ext0 {K : PySem.W.Frag} {F : Addr → Prop} {H : Hp} {σD : DSt} {σ : St} {R : Ro} {k : Nat} (r : Rel K F H σD σ R) : Rel K F H (σD ++ List.replicate k none) (σ ++ List.replicate k none) R := by
 have hm : ∀ {σD : DSt} {σ : St}, Mt σD σ → Mt (σD ++ List.replicate k none) (σ ++ List.replicate k none) ∧ sl (σD ++ List.replicate k none) (σ ++ List.replicate k none) = sl σD σ := by
  intro σD
  induction σD with
  | nil => intro σ h; cases σ with | nil => exact ⟨mt_none, sl_none'⟩ | cons _ _ => cases h
  | cons o σD ih =>
   intro σ h
   cases σ with
   | nil => cases o <;> cases h
   | cons v σ =>
    cases o with
    | none => exact ih (σ := σ) h
    | some d =>
     cases v with
     | none => cases h
     | some v =>
      have q := ih (σ := σ) h
      exact ⟨q.1, congrArg ((d, v) :: ·) q.2⟩
 obtain ⟨h1, h2⟩ := hm r.mt
 exact ⟨h1, by rw [h2]; exact r.g⟩
theorem Rel.cut {K : PySem.W.Frag} {F : Addr → Prop} {H : Hp} {R : Ro} : ∀ {σD : DSt} {σ σ0 : St} {n : Nat}, σ0.length = n → σ.take n = σ0 → Rel K F H σD σ R → Rel K F H (σD.take n) σ0 R := by
 intro σD σ σ0 n hn he r
 subst he
 have hm : ∀ {σD : DSt} {σ : St} (n : Nat), Mt σD σ → Mt (σD.take n) (σ.take n) ∧ ∃ S, (sl σD σ) = sl (σD.take n) (σ.take n) ++ S := by
  intro σD
  induction σD with
  | nil => intro σ n h; cases σ with | nil => simp [Mt, sl] | cons _ _ => cases h
  | cons o σD ih =>
   intro σ n h
   cases σ with
   | nil => cases o <;> cases h
   | cons v σ =>
    cases n with
    | zero => exact ⟨trivial, _, rfl⟩
    | succ n =>
     cases o with
     | none => exact ih (σ := σ) n h
     | some d =>
      cases v with
      | none => cases h
      | some v =>
       obtain ⟨h1, S, h2⟩ := ih (σ := σ) n h
       refine ⟨h1, S, ?_⟩
       show (d, v) :: sl σD σ = (d, v) :: sl (σD.take n) (σ.take n) ++ S
       rw [h2]; rfl
 obtain ⟨h1, S, h2⟩ := hm n r.mt
 refine ⟨h1, ?_⟩
 have g := r.g
 rw [h2] at g
 have g2 : G K F H (S ++ (sl (σD.take n) (σ.take n) ++ R)) := g.perm (by rw [List.append_assoc]; exact List.perm_append_comm_assoc _ _ _)
 exact g2.popN
theorem lc_go {F : Addr → Prop} {H : Hp} {R : Ro} {σD σD' : DSt} {σ : St} {xs ys : List D} {J : It} {k : Nat} {Q : VK} (r : Rel X.K F H σD σ R) (j : ItD X.K J xs F H) (hz : xs.length ≤ sizeLine) (hw : ∀ i ∈ W, σ.length ≤ i)
  (h : lcGo g t c xs (σD ++ List.replicate k none) = some (ys, σD')) (kk : ∀ F' H' v, Ext F H F' H' → Rel X.K F' H' (σD'.take σD.length) σ ((.lst true ys, v) :: R) → Q v H') (p : Addr) (hp : H p = none) :
  ∃ W1 : Nat → Nat → St → Hp → Prop, (∃ m, W1 0 m (σ ++ List.replicate k none) (upd H p (.lst []))) ∧ ∀ i m σ' H', W1 i m σ' H' →
   (J.stop i H' ∧ Q (.ref p) H') ∨ (J.go i H' ∧ ∀ x H2, J.yld i H' x H2 → rG X.K g W x σ' H2 fun σ2 H3 => rT X.K t σ2 H3 fun ok H4 => if ok = true then
    rE X.K c σ2 H4 fun y H5 => ∃ ys, H5 p = some (.lst ys) ∧ ys.length < sizeLine ∧ ∃ m', m' < m ∧ W1 (i + 1) m' σ2 (upd H5 p (.lst (ys ++ [y])))
    else ∃ m', m' < m ∧ W1 (i + 1) m' σ2 H4) := by
 have hlen := r.mt.length
 obtain ⟨r0, x0⟩ := (r.ext0 (k := k)).alloc (o := .lst []) hp
 have r1 : Rel X.K F (upd H p (.lst [])) (σD ++ List.replicate k none) (σ ++ List.replicate k none) ((.lst true [], .ref p) :: R) := r0.formL (xs := []) (vs := []) rfl upd_same
 refine ⟨fun i m σ1 H1 => m = xs.length - i ∧ i ≤ xs.length ∧ ∃ F1 σD1 ds zs, Ext F H F1 H1 ∧ Kp W (σ ++ List.replicate k none) σ1 ∧ Rel X.K F1 H1 σD1 σ1 ((.lst true ds, .ref p) :: R) ∧ ds.length ≤ i ∧ lcGo g t c (xs.drop i) σD1 = some (zs, σD') ∧ ds ++ zs = ys,
  ⟨_, rfl, Nat.zero_le _, F, _, [], ys, x0, Kp.refl, r1, Nat.zero_le _, by simpa using h, rfl⟩, ?_⟩
 rintro i m σ1 H1 ⟨rfl, hle, F1, σD1, ds, zs, x1, kp1, r2, hds, h1, hys⟩
 rcases Nat.lt_or_ge i xs.length with hi | hi
 ·right
  obtain ⟨go, yl⟩ := j.item i _ F1 H1 x1 r2.g.dom (List.getElem?_eq_getElem hi)
  refine ⟨go, fun x H2 hy => ?_⟩
  obtain ⟨F2, gr, ox⟩ := yl x H2 hy
  rw [List.drop_eq_getElem_cons hi] at h1
  simp only [lcGo] at h1
  rcases e1 : g xs[i] σD1 with _ | σ3
  ·rw [e1] at h1; cases h1
  ·rw [e1] at h1; simp only [bind_some] at h1
   refine ⟨F2, _, σD1, xs[i], σ3, (r2.grow gr).push ox, e1, fun F3 H3 σ4 x3 kp3 r3 => ?_⟩
   rcases e2 : t σ3 with _ | ⟨ok, σ5⟩
   ·rw [e2] at h1; cases h1
   ·rw [e2] at h1; simp only [bind_some] at h1
    refine ⟨F3, _, σ3, ok, σ5, r3, e2, fun F4 H4 x4 r4 => ?_⟩
    have xx := ((x1.trans gr.x).trans x3).trans x4
    have kp5 := kp1.trans kp3
    cases ok with
    | false =>
     simp only [Bool.false_eq_true, if_false] at h1 ⊢
     exact ⟨xs.length - (i + 1), by omega, rfl, hi, F4, σ5, ds, zs, xx, kp5, r4, by omega, h1, hys⟩
    | true =>
     simp only [if_true] at h1 ⊢
     rcases e3 : c σ5 with _ | ⟨d, σ6⟩
     ·rw [e3] at h1; cases h1
     ·rw [e3] at h1; simp only [bind_some] at h1
      obtain ⟨⟨ws, σ7⟩, e4, e5⟩ := map_pair h1
      cases e5
      refine ⟨F4, _, σ5, d, σ6, r4, e3, fun F5 H5 v x5 r5 => ?_⟩
      obtain ⟨a, vs, ea, he, hl, r6⟩ := (r5.perm (.swap _ _ _)).openL
      cases ea
      refine ⟨vs, he, by omega, xs.length - (i + 1), by omega, rfl, hi, ?_⟩
      have r7 : Rel X.K F5 H5 σ6 σ4 ((.cell, .ref p) :: ((ds ++ [d]).zip (vs ++ [v]) ++ R)) := by
       refine r6.perm (.cons _ ?_)
       rw [List.zip_append hl]
       simp
      obtain ⟨r8, x8⟩ := r7.write (o := .lst (vs ++ [v]))
      exact ⟨F5, σ6, ds ++ [d], ws, (xx.trans x5).trans x8, kp5, r8.formL (by simp [hl]) upd_same, by simp; omega, e4, by rw [← hys]; simp⟩
 ·left
  have ei : i = xs.length := Nat.le_antisymm hle hi
  subst ei
  rw [List.drop_length] at h1
  simp only [lcGo] at h1
  cases h1
  rw [List.append_nil] at hys
  subst hys
  refine ⟨j.done F1 H1 x1, kk F1 H1 _ x1 ?_⟩
  rw [hlen]
  refine r2.cut rfl ?_
  apply List.ext_getElem?
  intro n
  rcases Nat.lt_or_ge n σ.length with hn | hn
  ·rw [List.getElem?_take_of_lt hn, kp1 n (fun z => absurd (hw n z) (by omega)), List.getElem?_append_left hn]
  ·rw [List.getElem?_eq_none (by simp; omega), List.getElem?_eq_none hn]
theorem qe_lc (hc : X.calm = true) (T : CyOk X N' scope) (hi : QI X tg iter i) (hg : ∀ cl s H fp pins, QG (cyOf X N' scope cl s H fp pins) tg g W) (ht : ∀ cl s H fp pins, QIf (cyOf X N' scope cl s H fp pins) ifs t)
  (he : ∀ cl s H fp pins, QE (cyOf X N' scope cl s H fp pins) elt c) (hw : ∀ i ∈ W, X.N.length ≤ i) (hs : ∀ x, foldedSetIterable iter X.env x = pure x := by intro _; rfl) :
  QE X (.ListComp elt [⟨tg, iter, ifs, 0⟩] scope pos) (dLc (N'.length - X.N.length) i g t c) := by
 rintro pins s σ H Q I ⟨F, R, σD, d, σD', r, ec, k⟩
 have hlen : σ.length = X.N.length := I.len
 refine pe_lc (X := X) (N' := N') (g := rG X.K g W) (tt := rT X.K t) (te := rE X.K c) hc T hi hg ht he hs pins s σ H Q I ?_
 unfold dLc at ec
 rcases h : i σD with _ | ⟨xs, σ1⟩
 ·rw [h] at ec; cases ec
 ·rw [h] at ec; simp only [bind_some] at ec
  split at ec
  ·rename_i hz
   obtain ⟨⟨ys, σ2⟩, e1, e2⟩ := map_pair ec
   cases e2
   refine ⟨F, R, σD, xs, σ1, r, h, fun F1 H1 J x1 r1 j p hp => ?_⟩
   exact lc_go (X := X) (W := W) r1 j hz (fun i hi => by rw [hlen]; exact hw i hi) e1 (fun F2 H2 v x2 r2 => k F2 H2 v (x1.trans x2) r2) p hp
  ·cases ec
theorem qs_set_lc (ix : Nat) {y : Str} {py spos : Pos} (hN : X.N.Nodup) (hc : X.calm = true) (T : CyOk X N' scope) (hi : QI X tg iter i) (hg : ∀ cl s H fp pins, QG (cyOf X N' scope cl s H fp pins) tg g W) (ht : ∀ cl s H fp pins, QIf (cyOf X N' scope cl s H fp pins) ifs t)
  (he : ∀ cl s H fp pins, QE (cyOf X N' scope cl s H fp pins) elt c) (hw : ∀ i ∈ W, X.N.length ≤ i) (hsw : swapsWith (.ListComp elt [⟨tg, iter, ifs, 0⟩] scope pos) (some (.Name y py)) spos.line X.env = pure true)
  (hiN : X.N[ix]? = some y := by rfl) (hx : Loc X.env.scope y := by first | exact Or.inl rfl | exact Or.inr rfl) (hs : ∀ x, foldedSetIterable iter X.env x = pure x := by intro _; rfl) (hf : X.fn y = true ∨ X.env.scope.names.lookup y = some .local := by first | exact .inl rfl | exact .inr rfl | assumption) :
  QS X (.Assign [.Name y py] (.ListComp elt [⟨tg, iter, ifs, 0⟩] scope pos) spos) (sSet ix (dLc (N'.length - X.N.length) i g t c)) [ix] := by
 rintro pins s σ H En I ⟨F, R, σD, o, r, ec, k⟩
 have hlen : σ.length = X.N.length := I.len
 refine ps_set_lc (X := X) (N' := N') (g := rG X.K g W) (tt := rT X.K t) (te := rE X.K c) hN hiN hx hsw hc T hi hg ht he hs hf pins s σ H En I ?_
 unfold sSet at ec
 rcases h0 : dLc (N'.length - X.N.length) i g t c σD with _ | ⟨d0, σ0⟩
 ·rw [h0] at ec; cases ec
 ·rw [h0] at ec; simp only [bind_some] at ec
  split at ec
  ·rename_i hl
   cases ec
   unfold dLc at h0
   rcases h : i σD with _ | ⟨xs, σ1⟩
   ·rw [h] at h0; cases h0
   ·rw [h] at h0; simp only [bind_some] at h0
    split at h0
    ·rename_i hz
     obtain ⟨⟨ys, σ2⟩, e1, e2⟩ := map_pair h0
     cases e2
     refine ⟨F, R, σD, xs, σ1, r, h, fun F1 H1 J x1 r1 j p hp => ?_⟩
     exact lc_go (X := X) (W := W) (Q := fun x H1 => gName ix x σ H1 En.nx) r1 j hz (fun i hi => by rw [hlen]; exact hw i hi) e1 (fun F2 H2 v x2 r2 => k F2 H2 _ (x1.trans x2) Kp.set (r2.store (by rw [← r2.mt.length]; exact hl))) p hp
    ·cases h0
  ·cases ec
end
end DD
namespace DD
open PySem PySem.Spec PyProof.Rows L2
mutual
noncomputable def D.py : D → Option PyData
 | .non => some .none
 | .bl b => some (.bool b)
 | .int i => some (.int i)
 | .str x => some (.str x)
 | .lst _ xs => (D.pyL xs).map .list
 | .tup xs => (D.pyL xs).map .tuple
 | _ => none
noncomputable def D.pyL : List D → Option (List PyData)
 | [] => some []
 | x :: xs => (D.py x).bind fun p => (D.pyL xs).map fun ps => p :: ps
end
section
variable {X : Cx} {pins : List (Addr × Obj)} {σ : St} {H : Hp} {s : Shared} {F : Addr → Prop}
theorem obj_list (I : L2.Inv X pins σ H s) {a : Addr} {vs : List V} (h : SqL X.K H a vs) : ∃ its o n, Vals vs its ∧ s.heap.get? a = some o ∧ o.cls = .type "list" ∧ o.data = .seq its.toArray n := by
 obtain ⟨its, r, ⟨o, n, e, c, _, d⟩, _⟩ := I.list h
 exact ⟨its, o, n, r, e, c, d⟩
theorem obj_tup (I : L2.Inv X pins σ H s) {a : Addr} {vs : List V} (h : SqT X.K H a vs) : ∃ its o n, Vals vs its ∧ s.heap.get? a = some o ∧ o.cls = .type "tuple" ∧ o.data = .seq its.toArray n := by
 obtain ⟨its, r, ⟨o, e, c, n, d⟩, _⟩ := I.tuple h
 exact ⟨its, o, n, r, e, c, d⟩
mutual
theorem reads_of (I : L2.Inv X pins σ H s) : ∀ {d : D} {v : V} {L : List Addr} {p : PyData} {u : Value}, Ow X.K F H d v L → d.py = some p → RelV v u → ∃ as, Reads s.heap u p as
 | .non, v, L, p, u, o, e, r => by simp only [D.py, Ow] at e o; cases e; obtain ⟨rfl, _⟩ := o; cases r; exact ⟨_, .none⟩
 | .bl b, v, L, p, u, o, e, r => by simp only [D.py, Ow] at e o; cases e; obtain ⟨rfl, _⟩ := o; cases r; exact ⟨_, .bool b⟩
 | .int i, v, L, p, u, o, e, r => by simp only [D.py, Ow] at e o; cases e; obtain ⟨rfl, _⟩ := o; obtain ⟨t, rfl⟩ := r; exact ⟨_, .int i t⟩
 | .str x, v, L, p, u, o, e, r => by simp only [D.py, Ow] at e o; cases e; obtain ⟨rfl, _⟩ := o; obtain ⟨t, rfl⟩ := r; exact ⟨_, .str x t⟩
 | .lst own xs, v, L, p, u, o, e, r => by
  simp only [D.py] at e
  rcases h : D.pyL xs with _ | ps
  ·rw [h] at e; cases e
  ·rw [h] at e; cases e
   obtain ⟨a, vs, rfl, sq, L', ol⟩ := Bor.lst ⟨L, o⟩
   cases r
   obtain ⟨its, ob, n, rv, e1, e2, e3⟩ := obj_list I sq
   obtain ⟨as, ra⟩ := readsL_of I ol h rv
   exact ⟨_, .list e1 e2 e3 ra⟩
 | .tup xs, v, L, p, u, o, e, r => by
  simp only [D.py] at e
  rcases h : D.pyL xs with _ | ps
  ·rw [h] at e; cases e
  ·rw [h] at e; cases e
   obtain ⟨a, vs, rfl, sq, L', ol⟩ := Bor.tup ⟨L, o⟩
   cases r
   obtain ⟨its, ob, n, rv, e1, e2, e3⟩ := obj_tup I sq
   obtain ⟨as, ra⟩ := readsL_of I ol h rv
   exact ⟨_, .tuple e1 e2 e3 ra⟩
 | .hole, _, _, _, _, _, e, _ => by simp only [D.py] at e; cases e
 | .cell, _, _, _, _, _, e, _ => by simp only [D.py] at e; cases e
 | .node _ _, _, _, _, _, _, e, _ => by simp only [D.py] at e; cases e
 | .ty _, _, _, _, _, _, e, _ => by simp only [D.py] at e; cases e
 | .cls _, _, _, _, _, _, e, _ => by simp only [D.py] at e; cases e
 | .obj _ _ _ _, _, _, _, _, _, e, _ => by simp only [D.py] at e; cases e
 | .dct _ _ _, _, _, _, _, _, e, _ => by simp only [D.py] at e; cases e
theorem readsL_of (I : L2.Inv X pins σ H s) : ∀ {xs : List D} {vs : List V} {L : List Addr} {ps : List PyData} {us : List Value}, OwL X.K F H xs vs L → D.pyL xs = some ps → Vals vs us → ∃ as, ReadsAll s.heap us ps as
 | [], vs, L, ps, us, o, e, r => by
  simp only [D.pyL, OwL] at e o
  cases e
  obtain ⟨rfl, _⟩ := o
  cases r
  exact ⟨_, .nil⟩
 | x :: xs, vs, L, ps, us, o, e, r => by
  simp only [D.pyL, OwL] at e o
  obtain ⟨v, ws, L1, L2, rfl, o1, o2, _⟩ := o
  rcases h1 : D.py x with _ | p
  ·rw [h1] at e; cases e
  ·rw [h1] at e; simp only [bind_some] at e
   rcases h2 : D.pyL xs with _ | qs
   ·rw [h2] at e; cases e
   ·rw [h2] at e; cases e
    cases r with
    | cons r1 r2 =>
     obtain ⟨as, ra⟩ := reads_of I o1 h1 r1
     obtain ⟨bs, rb⟩ := readsL_of I o2 h2 r2
     exact ⟨_, .cons ra rb⟩
end
theorem Bor.reads (I : L2.Inv X pins σ H s) {d : D} {v : V} {p : PyData} {u : Value} (b : Bor X.K F H d v) (e : d.py = some p) (r : RelV v u) : ∃ as, Reads s.heap u p as := by
 obtain ⟨L, o⟩ := b
 exact reads_of I o e r
end
noncomputable def pyOk (p q : PyData) : Bool := p.canLay0 && q.canLay0 && decide (min p.depth q.depth ≤ 50)
noncomputable def gEq : D → D → Option D := fun x y => x.py.bind fun p => y.py.bind fun q => if pyOk p q = true then some (.bl (PyData.eqv p q)) else none
noncomputable def gNe : D → D → Option D := fun x y => x.py.bind fun p => y.py.bind fun q => if pyOk p q = true then some (.bl (!PyData.eqv p q)) else none
section
variable {X : Cx}
theorem gEq_some {x y d : D} (h : gEq x y = some d) : ∃ p q, x.py = some p ∧ y.py = some q ∧ p.canLay0 = true ∧ q.canLay0 = true ∧ min p.depth q.depth ≤ 50 ∧ d = .bl (PyData.eqv p q) := by
 unfold gEq at h
 rcases h1 : x.py with _ | p
 ·rw [h1] at h; cases h
 ·rw [h1] at h; simp only [bind_some] at h
  rcases h2 : y.py with _ | q
  ·rw [h2] at h; cases h
  ·rw [h2] at h; simp only [bind_some] at h
   split at h
   ·rename_i hk
    cases h
    simp only [pyOk, Bool.and_eq_true, decide_eq_true_eq] at hk
    exact ⟨p, q, rfl, rfl, hk.1.1, hk.1.2, hk.2, rfl⟩
   ·cases h
theorem gNe_some {x y d : D} (h : gNe x y = some d) : ∃ p q, x.py = some p ∧ y.py = some q ∧ p.canLay0 = true ∧ q.canLay0 = true ∧ min p.depth q.depth ≤ 50 ∧ d = .bl (!PyData.eqv p q) := by
 unfold gNe at h
 rcases h1 : x.py with _ | p
 ·rw [h1] at h; cases h
 ·rw [h1] at h; simp only [bind_some] at h
  rcases h2 : y.py with _ | q
  ·rw [h2] at h; cases h
  ·rw [h2] at h; simp only [bind_some] at h
   split at h
   ·rename_i hk
    cases h
    simp only [pyOk, Bool.and_eq_true, decide_eq_true_eq] at hk
    exact ⟨p, q, rfl, rfl, hk.1.1, hk.1.2, hk.2, rfl⟩
   ·cases h
theorem o_eq (hu : X.A.units + 64 < cLine) : OpS X (compareOp .Eq) gEq := by
 refine ⟨fun pins s σ H x y v u Q I rx ry ⟨F, dx, dy, d, w, b1, b2, eg, hw, q⟩ => ?_, fun x y d h => ?_⟩
 ·obtain ⟨p, r, e1, e2, c1, c2, hd, rfl⟩ := gEq_some eg
  cases hw
  obtain ⟨as, ra⟩ := b1.reads I e1 rx
  obtain ⟨bs, rb⟩ := b2.reads I e2 ry
  exact SeqAt.eqOverData _ _ _ _ _ _ _ _ _ _ _ _ ra rb c1 c2 (by omega) ⟨.bl _, H, I, rfl, q⟩
 ·obtain ⟨p, r, _, _, _, _, _, rfl⟩ := gEq_some h
  exact ⟨_, rfl⟩
theorem o_ne (hu : X.A.units + 64 < cLine) : OpS X (compareOp .NotEq) gNe := by
 refine ⟨fun pins s σ H x y v u Q I rx ry ⟨F, dx, dy, d, w, b1, b2, eg, hw, q⟩ => ?_, fun x y d h => ?_⟩
 ·obtain ⟨p, r, e1, e2, c1, c2, hd, rfl⟩ := gNe_some eg
  cases hw
  obtain ⟨as, ra⟩ := b1.reads I e1 rx
  obtain ⟨bs, rb⟩ := b2.reads I e2 ry
  exact SeqAt.neOverData _ _ _ _ _ _ _ _ _ _ _ _ ra rb c1 c2 (by omega) ⟨.bl _, H, I, rfl, q⟩
 ·obtain ⟨p, r, _, _, _, _, _, rfl⟩ := gNe_some h
  exact ⟨_, rfl⟩
end
noncomputable def BorL (K : PySem.W.Frag) (F : Addr → Prop) (H : Hp) : List D → List V → Prop
 | [], [] => True
 | d :: ds, v :: vs => Bor K F H d v ∧ BorL K F H ds vs
 | _, _ => False
theorem BorL.grow {K : PySem.W.Frag} {F F' : Addr → Prop} {H H' : Hp} (g : Grow F H F' H') : ∀ {ds : List D} {vs : List V}, BorL K F H ds vs → BorL K F' H' ds vs
 | [], [], _ => trivial
 | d :: ds, v :: vs, h => ⟨h.1.grow g, BorL.grow g h.2⟩
theorem BorL.of {K : PySem.W.Frag} {F : Addr → Prop} {H : Hp} {σD : DSt} {σ : St} : ∀ {ds : List D} {vs : List V} {R : Ro}, ds.length = vs.length → Rel K F H σD σ (ds.zip vs ++ R) → BorL K F H ds vs
 | [], [], _, _, _ => trivial
 | d :: ds, v :: vs, R, h, r => ⟨r.bor (by simp), BorL.of (R := R) (by simpa using h) (Rel.pop (R := ds.zip vs ++ R) r)⟩
structure CallS (X : Cx) (f : Value) (g : List D → Option D) : Prop where
 run : CallR X f (fun vs H Q => ∃ F ds d w, BorL X.K F H ds vs ∧ g ds = some d ∧ d.sc = some w ∧ Q w H)
 sc : ∀ ds d, g ds = some d → ∃ w, d.sc = some w
noncomputable def evB : List DP → DSt → Option (List D)
 | [], _ => some []
 | p :: ps, σ => (p σ).bind fun d => (evB ps σ).map fun ds => d :: ds
noncomputable def pCall (g : List D → Option D) (ps : List DP) : DP := fun σ => (evB ps σ).bind g
noncomputable def dCallB (g : List D → Option D) (ca : DA) : DE := fun σ => (ca σ).bind fun p => (g p.1).map fun d => (d, p.2)
noncomputable def rBA (K : PySem.W.Frag) (ps : List DP) : TA := fun σ H Q => ∃ F R σD ds, Rel K F H σD σ R ∧ evB ps σD = some ds ∧ ∀ F' H' vs, Grow F H F' H' → BorL K F' H' ds vs → Q vs H'
noncomputable def QBA (X : Cx) (es : List Expr) (ps : List DP) : Prop := PA X es (rBA X.K ps)
section
variable {X : Cx} {e : Expr} {es : List Expr} {p : DP} {ps : List DP} {x : Str} {p1 pos : Pos} {id T : String} {g : List D → Option D} {ca : DA}
theorem qba_nil : QBA X [] [] := PA_imp pa_nil fun σ H Q hq0 => by
 obtain ⟨F, R, σD, ds, r, ec, k⟩ := hq0
 cases ec; exact k F H [] Grow.refl trivial
theorem qba_cons (ha : QB X e p) (hr : QBA X es ps) (hs : starEach (e :: es) X.env = (false, eval e X.env) :: starEach es X.env := by rfl) : QBA X (e :: es) (p :: ps) := PA_imp (pa_cons ha hr hs) fun σ H Q hq0 => by
 obtain ⟨F, R, σD, ds, r, ec, k⟩ := hq0
 simp only [evB] at ec
 rcases h1 : p σD with _ | d
 ·rw [h1] at ec; cases ec
 ·rw [h1] at ec; simp only [bind_some] at ec
  rcases h2 : evB ps σD with _ | ds2
  ·rw [h2] at ec; cases ec
  ·rw [h2] at ec; cases ec
   refine ⟨F, R, σD, d, r, h1, fun F1 H1 v g1 b1 => ?_⟩
   exact ⟨F1, R, σD, ds2, r.grow g1, h2, fun F2 H2 vs g2 b2 => k F2 H2 (v :: vs) (g1.trans g2) ⟨b1.grow g2, b2⟩⟩
theorem pCall_of {f : Value} (hc : CallS X f g) {σ : St} {H : Hp} {Q : VK} (h : rB X.K (pCall g ps) σ H Q) : tCB (fun vs H Q => ∃ F ds d w, BorL X.K F H ds vs ∧ g ds = some d ∧ d.sc = some w ∧ Q w H) (rBA X.K ps) σ H Q := by
 obtain ⟨F, R, σD, d, r, ec, k⟩ := h
 unfold pCall at ec
 rcases h1 : evB ps σD with _ | ds
 ·rw [h1] at ec; cases ec
 ·rw [h1] at ec; simp only [bind_some] at ec
  obtain ⟨w, hw⟩ := hc.sc _ _ ec
  exact ⟨F, R, σD, ds, r, h1, fun F1 H1 vs g1 b1 => ⟨F1, ds, d, w, b1, ec, hw, k F1 H1 w g1 ⟨[], Ow.of_sc hw⟩⟩⟩
theorem dCall_of {f : Value} (hc : CallS X f g) {σ : St} {H : Hp} {Q : VK} (h : rE X.K (dCallB g ca) σ H Q) : tCB (fun vs H Q => ∃ F ds d w, BorL X.K F H ds vs ∧ g ds = some d ∧ d.sc = some w ∧ Q w H) (rA X.K ca) σ H Q := by
 obtain ⟨F, R, σD, d, σD', r, ec, k⟩ := h
 unfold dCallB at ec
 rcases h1 : ca σD with _ | ⟨ds, σ1⟩
 ·rw [h1] at ec; cases ec
 ·rw [h1] at ec; simp only [bind_some] at ec
  obtain ⟨z, e1, e2⟩ := map_pair ec
  cases e2
  obtain ⟨w, hw⟩ := hc.sc _ _ e1
  exact ⟨F, R, σD, ds, _, r, h1, fun F1 H1 vs x1 hl r1 => ⟨F1, ds, _, w, BorL.of hl r1, e1, hw, k F1 H1 w x1 ((r1.popN).scal hw)⟩⟩
theorem qb_fn (hc : CallS X (.builtin id) g) (hg : Gl X x) (hm : X.mg x = none) (hv : bootBuiltins x = some (.builtin id)) (ha : QBA X (e :: es) ps) (hn : x ≠ "__name__" := by decide) (hdb : (x == ("__debug__" : Str)) = false := by decide)
  (he : starEach (e :: es) X.env = (false, eval e X.env) :: starEach es X.env := by rfl) (hpl : (backTo pos (starEach es X.env)).any (·.1) = false := by rfl) : QB X (.Call (.Name x p1) (e :: es) [] pos) (pCall g ps) :=
 PE_imp (pe_callB hc.run hg hm hv ha hn hdb he hpl) fun _ _ _ h => pCall_of hc h
theorem qe_fn (hc : CallS X (.builtin id) g) (hg : Gl X x) (hm : X.mg x = none) (hv : bootBuiltins x = some (.builtin id)) (ha : QA X (e :: es) ca) (hn : x ≠ "__name__" := by decide) (hdb : (x == ("__debug__" : Str)) = false := by decide)
  (he : starEach (e :: es) X.env = (false, eval e X.env) :: starEach es X.env := by rfl) (hpl : (backTo pos (starEach es X.env)).any (·.1) = false := by rfl) : QE X (.Call (.Name x p1) (e :: es) [] pos) (dCallB g ca) :=
 PE_imp (pe_callB hc.run hg hm hv ha hn hdb he hpl) fun _ _ _ h => dCall_of hc h
theorem qb_ty (hc : CallS X (.type T) g) (hg : Gl X x) (hm : X.mg x = none) (hv : bootBuiltins x = some (.type T)) (ha : QBA X (e :: es) ps) (hn : x ≠ "__name__" := by decide) (hdb : (x == ("__debug__" : Str)) = false := by decide)
  (he : starEach (e :: es) X.env = (false, eval e X.env) :: starEach es X.env := by rfl) (hpl : (backTo pos (starEach es X.env)).any (·.1) = false := by rfl) : QB X (.Call (.Name x p1) (e :: es) [] pos) (pCall g ps) :=
 PE_imp (pe_callTy hc.run hg hm hv ha hn hdb he hpl) fun _ _ _ h => pCall_of hc h
theorem qe_ty (hc : CallS X (.type T) g) (hg : Gl X x) (hm : X.mg x = none) (hv : bootBuiltins x = some (.type T)) (ha : QA X (e :: es) ca) (hn : x ≠ "__name__" := by decide) (hdb : (x == ("__debug__" : Str)) = false := by decide)
  (he : starEach (e :: es) X.env = (false, eval e X.env) :: starEach es X.env := by rfl) (hpl : (backTo pos (starEach es X.env)).any (·.1) = false := by rfl) : QE X (.Call (.Name x p1) (e :: es) [] pos) (dCallB g ca) :=
 PE_imp (pe_callTy hc.run hg hm hv ha hn hdb he hpl) fun _ _ _ h => dCall_of hc h
theorem qb_tyname {T : String} (hg : Gl X x) (hm : X.mg x = none) (hv : bootBuiltins x = some (.type T)) (hn : x ≠ "__name__" := by decide) (hd : (x == ("__debug__" : Str)) = false := by decide) : QB X (.Name x pos) (pC (.ty T)) :=
 PE_imp (pe_bltn (v := .ty T) hg hm hv rfl hn hd) fun σ H Q hq0 => by obtain ⟨F, R, σD, d, r, ec, k⟩ := hq0; cases ec; exact k F H _ Grow.refl ⟨[], Ow.of_sc rfl⟩
end
end DD
namespace DD
open PySem PySem.Spec PyProof.Rows L2
section
variable {X : Cx}
theorem CallR_imp {f : Value} {r r' : List V → Hp → VK → Prop} (h : CallR X f r) (i : ∀ xs H Q, r' xs H Q → r xs H Q) : CallR X f r' := fun pins s σ H xs us Q I rv h' => h pins s σ H xs us Q I rv (i xs H Q h')
theorem BorL.one {K : PySem.W.Frag} {F : Addr → Prop} {H : Hp} {d : D} : ∀ {vs : List V}, BorL K F H [d] vs → ∃ v, vs = [v] ∧ Bor K F H d v
 | [v], h => ⟨v, rfl, h.1⟩
theorem BorL.two {K : PySem.W.Frag} {F : Addr → Prop} {H : Hp} {d e : D} : ∀ {vs : List V}, BorL K F H [d, e] vs → ∃ v w, vs = [v, w] ∧ Bor K F H d v ∧ Bor K F H e w
 | [v, w], h => ⟨v, w, rfl, h.1, h.2.1⟩
noncomputable def lenD : List D → Option D
 | [.lst _ xs] => some (.int xs.length)
 | [.tup xs] => some (.int xs.length)
 | [.str z] => if z.length ≤ sizeLine then some (.int z.length) else none
 | _ => none
theorem c_len : CallS X (.builtin "len") lenD := by
 refine ⟨CallR_imp (call_len_seq.or call_len_str) fun vs H Q ⟨F, ds, d, w, b, eg, hw, q⟩ => ?_, fun ds d h => ?_⟩
 ·unfold lenD at eg
  split at eg
  ·cases eg; cases hw
   obtain ⟨v, rfl, bv⟩ := b.one
   obtain ⟨a, us, rfl, sq, L, ol⟩ := bv.lst
   exact .inl ⟨a, us, rfl, .inl sq, by rw [ol.length]; exact q⟩
  ·cases eg; cases hw
   obtain ⟨v, rfl, bv⟩ := b.one
   obtain ⟨a, us, rfl, sq, L, ol⟩ := bv.tup
   exact .inl ⟨a, us, rfl, .inr sq, by rw [ol.length]; exact q⟩
  ·split at eg
   ·rename_i hz
    cases eg; cases hw
    obtain ⟨v, rfl, bv⟩ := b.one
    exact .inr ⟨_, by rw [bv.str], hz, q⟩
   ·cases eg
  ·cases eg
 ·unfold lenD at h
  split at h
  ·cases h; exact ⟨_, rfl⟩
  ·cases h; exact ⟨_, rfl⟩
  ·split at h
   ·cases h; exact ⟨_, rfl⟩
   ·cases h
  ·cases h
noncomputable def intD : List D → Option D
 | [.int i] => some (.int i)
 | [.bl b] => some (.int (if b then 1 else 0))
 | _ => none
theorem c_int : CallS X (.type "int") intD := by
 refine ⟨CallR_imp call_int1 fun vs H Q ⟨F, ds, d, w, b, eg, hw, q⟩ => ?_, fun ds d h => ?_⟩
 ·unfold intD at eg
  split at eg
  ·cases eg; cases hw
   obtain ⟨v, rfl, bv⟩ := b.one
   exact .inl ⟨_, by rw [bv.int], q⟩
  ·cases eg; cases hw
   obtain ⟨v, rfl, bv⟩ := b.one
   exact .inr ⟨_, by rw [bv.bl], q⟩
  ·cases eg
 ·unfold intD at h
  split at h <;> first | (cases h; exact ⟨_, rfl⟩) | cases h
noncomputable def absD : List D → Option D
 | [.int i] => some (.int (if i < 0 then -i else i))
 | _ => none
noncomputable def max2D : List D → Option D
 | [.int i, .int j] => some (.int (if j > i then j else i))
 | _ => none
noncomputable def min2D : List D → Option D
 | [.int i, .int j] => some (.int (if j < i then j else i))
 | _ => none
theorem c_min2 (hc : X.calm = true) : CallS X (.builtin "min") min2D := by
 refine ⟨CallR_imp (call_min2 hc) fun vs H Q ⟨F, ds, d, w, b, eg, hw, q⟩ => ?_, fun ds d h => ?_⟩
 ·unfold min2D at eg
  split at eg
  ·cases eg; cases hw
   obtain ⟨v, u, rfl, bv, bu⟩ := b.two
   exact ⟨_, _, by rw [bv.int, bu.int], q⟩
  ·cases eg
 ·unfold min2D at h
  split at h <;> first | (cases h; exact ⟨_, rfl⟩) | cases h
noncomputable def kindD : D → Option Value
 | .non => some (.type "NoneType")
 | .bl _ => some (.type "bool")
 | .int _ => some (.type "int")
 | .str _ => some (.type "str")
 | .lst _ _ => some (.type "list")
 | .tup _ => some (.type "tuple")
 | _ => none
noncomputable def isiA : List String := ["NoneType", "bool", "int", "str", "list", "tuple"]
noncomputable def isiB : List String := ["int", "bool", "str", "list", "tuple"]
noncomputable def isiT (a b : String) : Option Bool := if (isiA.contains a && isiB.contains b) = true then some (a == b || (a == "bool" && b == "int")) else none
noncomputable def kindN : D → Option String
 | .non => some "NoneType"
 | .bl _ => some "bool"
 | .int _ => some "int"
 | .str _ => some "str"
 | .lst _ _ => some "list"
 | .tup _ => some "tuple"
 | _ => none
theorem kindN_D {x : D} {a : String} (h : kindN x = some a) : kindD x = some (.type a) := by
 cases x <;> first | (cases h; rfl) | cases h
noncomputable def isiD (ds : List D) : Option D := match ds with
 | [x, .ty t] => (kindN x).bind fun a => (isiT a t).map .bl
 | _ => none
theorem isiT_kit {K : PySem.W.Frag} {a b : String} {k : Bool} (h : isiT a b = some k) : PySem.W.kitOne K (.type a) (.type b) = some k := by
 unfold isiT at h
 split at h
 ·rename_i hc
  rw [Bool.and_eq_true, List.contains_iff_mem, List.contains_iff_mem] at hc
  obtain ⟨ha, hb⟩ := hc
  simp only [isiA, isiB, List.mem_cons, List.not_mem_nil, or_false] at ha hb
  rcases ha with rfl | rfl | rfl | rfl | rfl | rfl <;> rcases hb with rfl | rfl | rfl | rfl | rfl <;> (cases h; rfl)
 ·cases h
theorem map_bl {o : Option Bool} {d : D} (h : o.map D.bl = some d) : ∃ k, o = some k ∧ d = .bl k := by
 cases o with
 | none => cases h
 | some k => cases h; exact ⟨k, rfl, rfl⟩
theorem isi_run {pins : List (Addr × Obj)} {σ : St} {H : Hp} {s : Shared} {F : Addr → Prop} {x : D} {v : V} {u : Value} {t c : Value} {b : Bool} {Q : Value → Shared → Prop} {E : Value → Shared → Prop} (I : L2.Inv X pins σ H s) (bo : Bor X.K F H x v) (rv : RelV v u) (hk : kindD x = some t)
  (e : PySem.W.kitOne X.K t c = some b) (h : ∀ tk, Q (.bool b) { s with toks := tk }) : wpAny (model X.prog X.w) X.A (call (.builtin "isinstance") [u, c]) Q E s := by
 unfold kindD at hk
 split at hk
 ·cases hk; rw [bo.sc (w := .non) rfl] at rv; exact isinst_ok I rv (.non) e h
 ·cases hk; rw [bo.bl] at rv; exact isinst_ok I rv (.bl _) e h
 ·cases hk; rw [bo.int] at rv; exact isinst_ok I rv (.int _) e h
 ·cases hk; rw [bo.str] at rv; exact isinst_ok I rv (.str _) e h
 ·cases hk
  obtain ⟨a, vs, rfl, sq, L, ol⟩ := bo.lst
  cases rv
  obtain ⟨its, o, n, _, e1, e2, e3⟩ := obj_list I sq
  exact PySem.W.kia_one PySem.W.kitx_list I.kIn ⟨_, e1, e2⟩ e (fun z => nomatch z) h
 ·cases hk
  obtain ⟨a, vs, rfl, sq, L, ol⟩ := bo.tup
  cases rv
  obtain ⟨its, o, n, _, e1, e2, e3⟩ := obj_tup I sq
  exact PySem.W.kia_one PySem.W.kitx_tuple I.kIn ⟨_, e1, e2⟩ e (fun z => nomatch z) h
 ·cases hk
theorem c_isi : CallS X (.builtin "isinstance") isiD := by
 refine ⟨fun pins s σ H vs us Q I rv ⟨F, ds, d, w, b, eg, hw, q⟩ => ?_, fun ds d h => ?_⟩
 ·have key : ∀ {x : D} {a t : String}, ds = [x, .ty t] → kindD x = some (.type a) → (isiT a t).map D.bl = some d → wpAny (model X.prog X.w) X.A (call (.builtin "isinstance") us) (EP X pins σ Q) X.xe s := fun {x a t} e1 e2 e3 => by
   subst e1
   obtain ⟨k, e4, rfl⟩ := map_bl e3
   cases hw
   obtain ⟨v, u, rfl, bv, bu⟩ := b.two
   obtain ⟨u1, u2, rfl, r1, r2⟩ := vals2 rv
   have hu : u = .ty t := bu.sc rfl
   subst hu
   cases r2
   exact isi_run I bv r1 e2 (isiT_kit e4) fun tk => ⟨.bl k, H, I.tok tk, rfl, q⟩
  unfold isiD at eg
  split at eg
  ·rename_i x t
   rcases hk : kindN x with _ | a
   ·rw [hk] at eg; cases eg
   ·rw [hk] at eg
    exact key rfl (kindN_D hk) eg
  ·cases eg
 ·unfold isiD at h
  split at h
  ·rename_i x t
   rcases hk : kindN x with _ | a
   ·rw [hk] at h; cases h
   ·rw [hk] at h
    obtain ⟨k, _, rfl⟩ := map_bl h
    exact ⟨_, rfl⟩
  ·cases h
noncomputable def intsOf : List D → Option (List Int)
 | [] => some []
 | .int i :: xs => (intsOf xs).map fun r => i :: r
 | _ => none
noncomputable def sumD : List D → Option D
 | [.lst _ xs] => (intsOf xs).map fun ns => .int ns.sum
 | _ => none
theorem intsOf_map {xs : List D} {ns : List Int} (h : intsOf xs = some ns) : xs = ns.map D.int := by
 induction xs generalizing ns with
 | nil => cases h; rfl
 | cons x xs ih =>
  cases x <;> first | (simp only [intsOf] at h; cases hh : intsOf xs with | none => rw [hh] at h; cases h | some r => rw [hh] at h; cases h; rw [ih hh]; rfl) | (simp only [intsOf] at h; cases h)
theorem OwL.ints {K : PySem.W.Frag} {F : Addr → Prop} {H : Hp} : ∀ {ns : List Int} {vs : List V} {L : List Addr}, OwL K F H (ns.map D.int) vs L → vs = ns.map V.int
 | [], vs, L, h => by simp only [List.map_nil, OwL] at h; exact h.1
 | n :: ns, vs, L, h => by
  simp only [List.map_cons, OwL] at h
  obtain ⟨v, ws, L1, L2, rfl, o, ol, _⟩ := h
  rw [(o.sc (w := .int n) rfl).1, OwL.ints ol]; rfl
theorem c_sum (hc : X.calm = true) : CallS X (.builtin "sum") sumD := by
 refine ⟨fun pins s σ H vs us Q I rv ⟨F, ds, d, w, b, eg, hw, q⟩ => ?_, fun ds d h => ?_⟩
 ·unfold sumD at eg
  split at eg
  ·rename_i own xs
   rcases hns : intsOf xs with _ | ns
   ·rw [hns] at eg; cases eg
   ·rw [hns] at eg; cases eg; cases hw
    have ex := intsOf_map hns
    subst ex
    obtain ⟨v, rfl, bv⟩ := b.one
    obtain ⟨a, ws, rfl, sq, L, ol⟩ := bv.lst
    obtain ⟨u, rfl, ru⟩ := vals1 rv
    cases ru
    obtain ⟨its, r, pl, _⟩ := I.list sq
    rw [ol.ints] at r
    have hi : IntsAre its ns := intsAre_of r
    obtain ⟨ys, hy⟩ := hi.allInts.items
    refine sum_intListG (xs := ys) (I.ok.hd hc) (by rw [← hy]; exact pl.isList) fun h' tk t' hk => ⟨.int ns.sum, H, I.kept hk, ?_, q⟩
    have : (preSum (numAt ys) ys.size) = ns.sum := by
     rw [preSum_eq, List.take_of_length_le (by simp), ← nums_intItems, ← hy]
     rw [show its.toArray.toList = its from rfl, hi.numsOf]
    rw [this]
    exact ⟨t', rfl⟩
  ·cases eg
 ·unfold sumD at h
  split at h
  ·rcases hh : intsOf _ with _ | r
   ·rw [hh] at h; cases h
   ·rw [hh] at h; cases h; exact ⟨_, rfl⟩
  ·cases h
end
end DD
namespace DD
open PySem PySem.Spec PyProof.Rows L2
noncomputable def getP : D → List Int → Option D
 | t, [] => some t
 | .lst _ xs, j :: js => (atI xs j).bind fun x => getP x js
 | .tup xs, j :: js => (atI xs j).bind fun x => getP x js
 | _, _ :: _ => none
noncomputable def setP : D → List Int → D → D
 | _, [], d => d
 | .lst o xs, j :: js, d => match ixN xs.length j with | some k => (match xs[k]? with | some x => .lst o (xs.set k (setP x js d)) | none => .lst o xs) | none => .lst o xs
 | .tup xs, j :: js, d => match ixN xs.length j with | some k => (match xs[k]? with | some x => .tup (xs.set k (setP x js d)) | none => .tup xs) | none => .tup xs
 | t, _ :: _, _ => t
noncomputable def Lc (H : Hp) : V → List Int → V → Prop
 | v, [], w => w = v
 | v, j :: js, w => ∃ a vs u, v = .ref a ∧ (H a = some (.lst vs) ∨ H a = some (.tup vs)) ∧ atI vs j = some u ∧ Lc H u js w
theorem atI_ix {α : Type} {xs : List α} {j : Int} {x : α} (h : atI xs j = some x) : ∃ k, ixN xs.length j = some k ∧ xs[k]? = some x := by
 unfold atI at h
 rcases hk : ixN xs.length j with _ | k
 ·rw [hk] at h; cases h
 ·rw [hk] at h; exact ⟨k, rfl, h⟩
section
variable {K : PySem.W.Frag} {F F' : Addr → Prop} {H H' : Hp} {σD : DSt} {σ : St} {R S S' : Ro}
theorem Lc.grow {H H' : Hp} (k : ∀ a o, H a = some o → H' a = some o) : ∀ {js : List Int} {v w : V}, Lc H v js w → Lc H' v js w
 | [], _, _, h => h
 | j :: js, _, _, ⟨a, vs, u, e, h, hu, r⟩ => ⟨a, vs, u, e, by rcases h with h | h; exact .inl (k _ _ h); exact .inr (k _ _ h), hu, Lc.grow k r⟩
theorem Lc.snoc : ∀ {js : List Int} {j : Int} {v w : V}, Lc H v (js ++ [j]) w → ∃ u, Lc H v js u ∧ Lc H u [j] w
 | [], j, v, w, h => ⟨v, rfl, h⟩
 | i :: js, j, v, w, ⟨a, vs, u, e, h, hu, r⟩ => by
  obtain ⟨z, h1, h2⟩ := Lc.snoc r
  exact ⟨z, ⟨a, vs, u, e, h, hu, h1⟩, h2⟩
theorem Ow.focus : ∀ {js : List Int} {t : D} {v : V} {L : List Addr} {xs : List D}, Ow K F H t v L → getP t js = some (.lst true xs) →
  ∃ l La Lx Lb, Lc H v js (.ref l) ∧ L = La ++ (l :: Lx) ++ Lb ∧ (∃ vs, H l = some (.lst vs) ∧ OwL K F H xs vs Lx) ∧
   ∀ (F' : Addr → Prop) (H' : Hp) (d' : D) (Lx' : List Addr), Ext F H F' H' → (∀ a ∈ La ++ Lb, H' a = H a) → Ow K F' H' d' (.ref l) Lx' → Ow K F' H' (setP t js d') v (La ++ Lx' ++ Lb)
 | [], t, v, L, xs, o, e => by
  simp only [getP] at e
  cases e
  simp only [Ow] at o
  obtain ⟨l, vs, L', rfl, h, ol, rfl⟩ := o
  refine ⟨l, [], L', [], rfl, by simp, ⟨vs, h, ol⟩, fun F' H' d' Lx' x k o' => ?_⟩
  simp only [setP, List.nil_append, List.append_nil]
  exact o'
 | j :: js, .lst true ys, v, L, xs, o, e => by
  simp only [getP] at e
  rcases h1 : atI ys j with _ | y
  ·rw [h1] at e; cases e
  ·rw [h1] at e; simp only [bind_some] at e
   obtain ⟨k, hk, hy⟩ := atI_ix h1
   simp only [Ow] at o
   obtain ⟨a, vs, L', rfl, ha, ol, rfl⟩ := o
   obtain ⟨w, La, Ly, Lb, ew, rfl, oy, back⟩ := ol.kid hy
   obtain ⟨l, Ma, Mx, Mb, lc, rfl, hl, back2⟩ := Ow.focus oy e
   refine ⟨l, a :: (La ++ Ma), Mx, Mb ++ Lb, ⟨a, vs, w, rfl, .inl ha, ?_, lc⟩, by simp, hl, fun F' H' d' Lx' x kk o' => ?_⟩
   ·unfold atI; rw [ol.length, hk]; exact ew
   ·have o2 := back2 F' H' d' Lx' x (fun b hb => kk b (by simp at hb ⊢; rcases hb with hb | hb <;> simp [hb])) o'
    have o3 := back F' H' _ _ x (fun b hb => kk b (by simp at hb ⊢; rcases hb with hb | hb <;> simp [hb])) o2
    simp only [setP, hk, hy, Ow]
    exact ⟨a, vs, _, rfl, (kk a (by simp)).trans ha, o3, by simp⟩
 | j :: js, .lst false ys, v, L, xs, o, e => by
  exfalso
  simp only [getP] at e
  rcases h1 : atI ys j with _ | y
  ·rw [h1] at e; cases e
  ·rw [h1] at e; simp only [bind_some] at e
   obtain ⟨k, hk, hy⟩ := atI_ix h1
   simp only [Ow] at o
   obtain ⟨a, vs, rfl, _, ol, rfl⟩ := o
   obtain ⟨w, La, Ly, Lb, ew, eL, oy, back⟩ := ol.kid hy
   obtain ⟨l, Ma, Mx, Mb, lc, rfl, hl, back2⟩ := Ow.focus oy e
   simp at eL
 | j :: js, .tup ys, v, L, xs, o, e => by
  simp only [getP] at e
  rcases h1 : atI ys j with _ | y
  ·rw [h1] at e; cases e
  ·rw [h1] at e; simp only [bind_some] at e
   obtain ⟨k, hk, hy⟩ := atI_ix h1
   simp only [Ow] at o
   obtain ⟨a, vs, rfl, ft, ol⟩ := o
   obtain ⟨w, La, Ly, Lb, ew, rfl, oy, back⟩ := ol.kid hy
   obtain ⟨l, Ma, Mx, Mb, lc, rfl, hl, back2⟩ := Ow.focus oy e
   have ft' : F a ∧ H a = some (.tup vs) := by
    rcases ft with h | ⟨_, h⟩
    ·exact h
    ·simp at h
   refine ⟨l, La ++ Ma, Mx, Mb ++ Lb, ⟨a, vs, w, rfl, .inr ft'.2, ?_, lc⟩, by simp, hl, fun F' H' d' Lx' x kk o' => ?_⟩
   ·unfold atI; rw [ol.length, hk]; exact ew
   ·have o2 := back2 F' H' d' Lx' x (fun b hb => kk b (by simp at hb ⊢; rcases hb with hb | hb <;> simp [hb])) o'
    have o3 := back F' H' _ _ x (fun b hb => kk b (by simp at hb ⊢; rcases hb with hb | hb <;> simp [hb])) o2
    simp only [setP, hk, hy, Ow]
    exact ⟨a, vs, rfl, .inl ⟨(x a ft'.1).1, (x a ft'.1).2.trans ft'.2⟩, by simpa using o3⟩
 | _ :: _, .hole, _, _, _, _, e => by simp only [getP] at e; cases e
 | _ :: _, .cell, _, _, _, _, e => by simp only [getP] at e; cases e
 | _ :: _, .node _ _, _, _, _, _, e => by simp only [getP] at e; cases e
 | _ :: _, .non, _, _, _, _, e => by simp only [getP] at e; cases e
 | _ :: _, .bl _, _, _, _, _, e => by simp only [getP] at e; cases e
 | _ :: _, .int _, _, _, _, _, e => by simp only [getP] at e; cases e
 | _ :: _, .str _, _, _, _, _, e => by simp only [getP] at e; cases e
 | _ :: _, .ty _, _, _, _, _, e => by simp only [getP] at e; cases e
 | _ :: _, .cls _, _, _, _, _, e => by simp only [getP] at e; cases e
 | _ :: _, .obj _ _ _ _, _, _, _, _, e => by simp only [getP] at e; cases e
 | _ :: _, .dct _ _ _, _, _, _, _, e => by simp only [getP] at e; cases e
theorem Rel.listAt {t : D} {v : V} {js : List Int} {xs : List D} (r : Rel K F H σD σ ((t, v) :: (S ++ R))) (e : getP t js = some (.lst true xs)) :
  ∃ l vs, Lc H v js (.ref l) ∧ H l = some (.lst vs) ∧ xs.length = vs.length ∧ ∀ (ys : List D) (ws : List V) (S' : Ro), (xs.zip vs ++ S).Perm (ys.zip ws ++ S') → ys.length = ws.length →
   Rel K F (upd H l (.lst ws)) σD σ ((setP t js (.lst true ys), v) :: (S' ++ R)) ∧ Ext F H F (upd H l (.lst ws)) := by
 obtain ⟨L, ⟨L1, L23, o1, h23, rfl⟩, nd, nf⟩ := r.front.own
 obtain ⟨l, La, Lx, Lb, lc, rfl, ⟨vs, hl, ol⟩, back⟩ := o1.focus e
 refine ⟨l, vs, lc, hl, ol.toP.1, fun ys ws S' p hlen => ?_⟩
 have h23' : OwP K F H (S ++ (R ++ sl σD σ)) L23 := by rw [← List.append_assoc]; exact h23
 obtain ⟨L2, L3, rfl, h2, h3⟩ := h23'.split
 obtain ⟨M, pm, hM⟩ := (ol.toP.2.append h2).perm p
 obtain ⟨M1, M2, rfl, hM1, hM2⟩ := hM.split
 have all : ((La ++ (l :: Lx) ++ Lb) ++ (L2 ++ L3)).Perm (l :: (La ++ Lb ++ (Lx ++ L2) ++ L3)) := by
  have h1 : ((La ++ (l :: Lx) ++ Lb) ++ (L2 ++ L3)) = La ++ l :: (Lx ++ (Lb ++ (L2 ++ L3))) := by simp
  rw [h1]
  refine List.perm_middle.trans (.cons _ ?_)
  have h2 : La ++ Lb ++ (Lx ++ L2) ++ L3 = La ++ (Lb ++ (Lx ++ (L2 ++ L3))) := by simp
  rw [h2]
  exact (List.perm_append_comm_assoc _ _ _).append_left La
 have nd1 := all.nodup_iff.mp nd
 have nl : ∀ a ∈ La ++ Lb ++ (Lx ++ L2) ++ L3, a ≠ l := fun a ha z => (List.nodup_cons.mp nd1).1 (z ▸ ha)
 have nF : ∀ a, F a → a ≠ l := fun a fa z => nf l (all.mem_iff.mpr (by simp)) (z ▸ fa)
 have x : Ext F H F (upd H l (.lst ws)) := fun a fa => ⟨fa, upd_ne (nF a fa)⟩
 have kM : ∀ a ∈ M1 ++ M2, upd H l (.lst ws) a = H a := fun a ha => upd_ne (nl a (by
  have := pm.mem_iff.mpr ha
  simp at this ⊢
  rcases this with h | h <;> simp [h]))
 have o2 : Ow K F (upd H l (.lst ws)) (.lst true ys) (.ref l) (l :: M1) := by
  simp only [Ow]
  exact ⟨l, ws, M1, rfl, upd_same, OwL.ofP hlen (hM1.mono x fun a ha => kM a (by simp [ha])), rfl⟩
 have o3 := back F (upd H l (.lst ws)) (.lst true ys) (l :: M1) x (fun a ha => upd_ne (nl a (by simp at ha ⊢; rcases ha with h | h <;> simp [h]))) o2
 refine ⟨Rel.of r.mt ⟨⟨(La ++ (l :: M1) ++ Lb) ++ (M2 ++ L3), ⟨_, M2 ++ L3, o3, ?_, rfl⟩, ?_, ?_⟩, fun a fa => ?_⟩, x⟩
 ·show OwP K F (upd H l (.lst ws)) ((S' ++ R) ++ sl σD σ) (M2 ++ L3)
  rw [List.append_assoc]
  exact (hM2.mono x fun a ha => kM a (by simp [ha])).append (h3.mono x fun a ha => upd_ne (nl a (by simp [ha])))
 ·have p2 : ((La ++ (l :: M1) ++ Lb) ++ (M2 ++ L3)).Perm ((La ++ (l :: Lx) ++ Lb) ++ (L2 ++ L3)) := by
   refine List.Perm.trans ?_ all.symm
   have h1 : ((La ++ (l :: M1) ++ Lb) ++ (M2 ++ L3)) = La ++ l :: (M1 ++ (Lb ++ (M2 ++ L3))) := by simp
   rw [h1]
   refine List.perm_middle.trans (.cons _ ?_)
   have h2 : La ++ Lb ++ (Lx ++ L2) ++ L3 = La ++ (Lb ++ ((Lx ++ L2) ++ L3)) := by simp
   rw [h2]
   refine List.Perm.append_left La ?_
   refine (List.perm_append_comm_assoc _ _ _).trans (List.Perm.append_left Lb ?_)
   rw [← List.append_assoc]
   exact pm.symm.append_right L3
  exact p2.nodup_iff.mpr nd
 ·intro a ha fa
  refine nf a ?_ fa
  simp only [List.mem_append, List.mem_cons] at ha ⊢
  rcases ha with ((h | h | h) | h) | h | h
  ·simp [h]
  ·simp [h]
  ·have := pm.mem_iff.mpr (List.mem_append_left M2 h)
   rcases List.mem_append.mp this with z | z <;> simp [z]
  ·simp [h]
  ·have := pm.mem_iff.mpr (List.mem_append_right M1 h)
   rcases List.mem_append.mp this with z | z <;> simp [z]
  ·simp [h]
 ·rw [upd_ne (nF a fa)]; exact r.g.dom a fa
end
end DD
namespace DD
open PySem PySem.Spec PyProof.Rows L2
noncomputable def evI : List DP → DSt → Option (List Int)
 | [], _ => some []
 | p :: ps, σ => (p σ).bind fun d => match d with | .int i => (evI ps σ).map fun r => i :: r | _ => none
theorem evI_snoc : ∀ {js : List DP} {p : DP} {σ : DSt} {path : List Int}, evI (js ++ [p]) σ = some path → ∃ pre i, path = pre ++ [i] ∧ evI js σ = some pre ∧ p σ = some (.int i)
 | [], p, σ, path, h => by
  simp only [List.nil_append, evI] at h
  rcases hp : p σ with _ | d
  ·rw [hp] at h; cases h
  ·rw [hp] at h
   cases d <;> first | (cases h; exact ⟨[], _, rfl, rfl, rfl⟩) | cases h
 | q :: js, p, σ, path, h => by
  simp only [List.cons_append, evI] at h
  rcases hq : q σ with _ | d
  ·rw [hq] at h; cases h
  ·rw [hq] at h
   simp only [bind_some] at h
   cases d with
   | int i =>
    simp only at h
    rcases hr : evI (js ++ [p]) σ with _ | r
    ·rw [hr] at h; cases h
    ·rw [hr] at h; cases h
     obtain ⟨pre, k, rfl, h2, h3⟩ := evI_snoc hr
     refine ⟨i :: pre, k, rfl, ?_, h3⟩
     simp only [evI, hq, bind_some, h2, map_some]
   | _ => cases h
theorem Lc.uniq {H : Hp} : ∀ {js : List Int} {v w w' : V}, Lc H v js w → Lc H v js w' → w = w'
 | [], _, _, _, h, h' => h.trans h'.symm
 | j :: js, _, _, _, ⟨a, vs, u, e, h, hu, r⟩, ⟨a', vs', u', e', h', hu', r'⟩ => by
  subst e
  cases e'
  have ev : vs = vs' := by
   rcases h with h | h <;> rcases h' with h' | h' <;> rw [h] at h' <;> cases h' <;> rfl
  subst ev
  rw [hu] at hu'
  cases hu'
  exact Lc.uniq r r'
noncomputable def rP (K : PySem.W.Frag) (i : Nat) (js : List DP) : TE := fun σ H Q => ∃ F R σD v0 path w, Rel K F H σD σ R ∧ σ[i]? = some (some v0) ∧ evI js σD = some path ∧ Lc H v0 path w ∧ ∀ F' H', Grow F H F' H' → Q w H'
noncomputable def QP (X : Cx) (e : Expr) (i : Nat) (js : List DP) : Prop := PE X e (rP X.K i js)
section
variable {X : Cx} {e o a b : Expr} {es : List Expr} {p q : DP} {c c' : DE} {pos apos cpos : Pos} {i : Nat} {js : List DP}
theorem qp_v (i : Nat) {x : Str} {pos : Pos} (hN : X.N[i]? = some x := by rfl) (hv : Vis X.env.scope x := by first | exact Or.inl rfl | exact Or.inr (Or.inl rfl) | exact Or.inr (Or.inr rfl)) (hd : (x == ("__debug__" : Str)) = false := by decide)
  (hcd : (x == ("__classdict__" : Str)) = false := by decide) : QP X (.Name x pos) i [] := PE_imp (pe_var hN hv hd hcd) fun σ H Q hq0 => by
 obtain ⟨F, R, σD, v0, path, w, r, hv0, ep, lc, k⟩ := hq0
 cases ep
 cases lc
 exact ⟨_, hv0, k F H Grow.refl⟩
theorem qp_ix (ho : QP X a i js) (hb : QB X b q) (hs : PlainIx b := by intro _ _; rfl) : QP X (.Subscript a b pos) i (js ++ [q]) := PE_imp (pe_ix ix_seq ho hb hs) fun σ H Q hq0 => by
 obtain ⟨F, R, σD, v0, path, w, r, hv0, ep, lc, k⟩ := hq0
 obtain ⟨pre, j, rfl, e1, e2⟩ := evI_snoc ep
 obtain ⟨u, l1, l2⟩ := lc.snoc
 refine ⟨F, R, σD, v0, pre, u, r, hv0, e1, l1, fun F1 H1 g1 => ?_⟩
 refine ⟨F1, R, σD, _, r.grow g1, e2, fun F2 H2 y g2 b2 => ?_⟩
 obtain ⟨ad, vs, z, rfl, hh, hz, rfl⟩ := l2.grow (g1.trans g2).k
 rcases hh with hh | hh
 ·exact .inl ⟨ad, vs, j, _, rfl, b2.int, .inl (.inl hh), hz, k F2 H2 (g1.trans g2)⟩
 ·exact .inr (.inl ⟨ad, vs, j, _, rfl, b2.int, .inl (.inl hh), hz, k F2 H2 (g1.trans g2)⟩)
noncomputable def dApp (i : Nat) (js : List DP) (p : DP) : DE := fun σ => (dget σ i).bind fun t => (evI js σ).bind fun path => (getP t path).bind fun n => match n with
 | .lst true xs => (p σ).bind fun y => match y.sc with
  | some _ => if xs.length < sizeLine then some (.non, σ.set i (some (setP t path (.lst true (xs ++ [y]))))) else none
  | none => none
 | _ => none
theorem qe_appP (ho : QP X o i js) (he : QB X e p) (hbase : attributeBase o "append" X.env (eval o X.env) = eval o X.env := by rfl) (hfew : ((backTo cpos (starEach [e] X.env)).all (fun x => !x.1) && (backToKw cpos (keywordEach [] X.env)).all (fun x => x.1.isSome)
   && decide (([e] : List Expr).length + ([] : List Keyword).length + (if ([] : List Keyword).isEmpty then 0 else 1) < 30)) = true := by rfl) (hline : (apos.endLine == cpos.line) = true := by rfl)
  (hst : starEach [e] X.env = (false, eval e X.env) :: starEach [] X.env := by rfl) : QE X (.Call (.Attribute o "append" apos) [e] [] cpos) (dApp i js p) :=
 PE_imp (pe_bm PySem.F.plainAttrs_list PySem.F.slot_list_append PySem.F.type_list_append mt_append ho (pa_cons he pa_nil hst) hbase hfew hline hst rfl) fun σ H Q hq0 => by
  obtain ⟨F, R, σD, d, σD', r, ec, k⟩ := hq0
  unfold dApp at ec
  rcases h1 : dget σD i with _ | t
  ·rw [h1] at ec; cases ec
  ·rw [h1] at ec; simp only [bind_some] at ec
   rcases h2 : evI js σD with _ | path
   ·rw [h2] at ec; cases ec
   ·rw [h2] at ec; simp only [bind_some] at ec
    rcases h3 : getP t path with _ | n
    ·rw [h3] at ec; cases ec
    ·rw [h3] at ec; simp only [bind_some] at ec
     split at ec
     ·rename_i xs
      rcases h4 : p σD with _ | y
      ·rw [h4] at ec; cases ec
      ·rw [h4] at ec; simp only [bind_some] at ec
       rcases h5 : y.sc with _ | yw
       ·rw [h5] at ec; cases ec
       ·rw [h5] at ec
        simp only at ec
        split at ec
        ·rename_i hz
         cases ec
         obtain ⟨v0, hv0, r0⟩ := r.take (dget_some h1)
         obtain ⟨l0, vs0, lc0, hl0, _⟩ := Rel.listAt (S := []) r0 h3
         refine ⟨F, R, σD, v0, path, .ref l0, r, hv0, h2, lc0, fun F1 H1 g1 => ⟨.inl ⟨rfl, vs0, .inl (.inl (g1.k _ _ hl0))⟩, ?_⟩⟩
         refine ⟨F1, R, σD, y, r.grow g1, h4, fun F2 H2 u g2 b2 => ?_⟩
         have hu : u = yw := b2.sc h5
         subst hu
         have g3 := g1.trans g2
         obtain ⟨v1, hv1, r1⟩ := (r.grow g3).take (dget_some h1)
         rw [hv0] at hv1; cases hv1
         have r2 : Rel X.K F2 H2 (σD.set i none) σ ((t, v0) :: ([(y, u)] ++ R)) := (r1.scal (d := y) h5).perm (.swap _ _ _)
         obtain ⟨l, vs, lc, hl, hlen, upd'⟩ := r2.listAt h3
         have el : l0 = l := by
          have := (lc0.grow g3.k).uniq lc
          injection this
         subst el
         obtain ⟨r3, x3⟩ := upd' (xs ++ [y]) (vs ++ [u]) [] (by rw [List.zip_append hlen]; simp) (by simp [hlen])
         refine ⟨l0, vs, u, rfl, rfl, hl, by omega, ?_⟩
         have r4 := (Rel.put (R := R) r3 hv0)
         rw [List.set_set] at r4
         exact k F2 _ .non (g3.x.trans x3) (r4.scal rfl)
        ·cases ec
     ·cases ec
end
end DD
namespace DD
open PySem PySem.Spec PyProof.Rows L2
section
variable {X : Cx} {e o a b : Expr} {es : List Expr} {p q : DP} {c c' : DE} {pos apos cpos : Pos} {i : Nat} {js : List DP}
noncomputable def dAppV (i : Nat) (c : DE) : DE := fun σ => match dget σ i with
 | some (.lst _ _) => (c σ).bind fun p => match dget p.2 i with
  | some (.lst true xs) => if xs.length < sizeLine then some (.non, p.2.set i (some (.lst true (xs ++ [p.1])))) else none
  | _ => none
 | _ => none
theorem qe_appV (i : Nat) {x : Str} {npos : Pos} (he : QE X e c) (hN : X.N[i]? = some x := by rfl) (hv : Vis X.env.scope x := by first | exact Or.inl rfl | exact Or.inr (Or.inl rfl) | exact Or.inr (Or.inr rfl)) (hd : (x == ("__debug__" : Str)) = false := by decide)
  (hcd : (x == ("__classdict__" : Str)) = false := by decide) (hbase : attributeBase (.Name x npos) "append" X.env (eval (.Name x npos) X.env) = eval (.Name x npos) X.env := by rfl) (hfew : ((backTo cpos (starEach [e] X.env)).all (fun x => !x.1) && (backToKw cpos (keywordEach [] X.env)).all (fun x => x.1.isSome)
   && decide (([e] : List Expr).length + ([] : List Keyword).length + (if ([] : List Keyword).isEmpty then 0 else 1) < 30)) = true := by rfl) (hline : (apos.endLine == cpos.line) = true := by rfl)
  (hst : starEach [e] X.env = (false, eval e X.env) :: starEach [] X.env := by rfl) : QE X (.Call (.Attribute (.Name x npos) "append" apos) [e] [] cpos) (dAppV i c) :=
 PE_imp (pe_bm PySem.F.plainAttrs_list PySem.F.slot_list_append PySem.F.type_list_append mt_append (pe_var hN hv hd hcd) (pa_cons he pa_nil hst) hbase hfew hline hst rfl) fun σ H Q hq0 => by
  obtain ⟨F, R, σD, d, σD', r, ec, k⟩ := hq0
  unfold dAppV at ec
  split at ec
  ·rename_i own ys h0
   obtain ⟨v0, hv0, b0⟩ := r.get (dget_some h0)
   obtain ⟨a0, vs0, rfl, sq0, _⟩ := b0.lst
   rcases h1 : c σD with _ | ⟨y, σ1⟩
   ·rw [h1] at ec; cases ec
   ·rw [h1] at ec; simp only [bind_some] at ec
    split at ec
    ·rename_i xs h2
     split at ec
     ·rename_i hz
      cases ec
      refine ⟨_, hv0, .inl ⟨rfl, vs0, sq0⟩, F, R, σD, y, σ1, r, h1, fun F1 H1 v x1 r1 => ?_⟩
      obtain ⟨v1, hv1, r2⟩ := r1.take (dget_some h2)
      rw [hv0] at hv1; cases hv1
      obtain ⟨l, vs, lc, hl, hlen, upd'⟩ := Rel.listAt (S := [(y, v)]) (js := []) (xs := xs) r2 rfl
      cases lc
      obtain ⟨r3, x3⟩ := upd' (xs ++ [y]) (vs ++ [v]) [] (by rw [List.zip_append hlen]; simp) (by simp [hlen])
      refine ⟨_, vs, v, rfl, rfl, hl, by omega, ?_⟩
      have r4 := (Rel.put (R := R) r3 hv0)
      rw [List.set_set] at r4
      exact k F1 _ .non (x1.trans x3) (r4.scal rfl)
     ·cases ec
    ·cases ec
  ·cases ec
noncomputable def dPopV (i : Nat) : DE := fun σ => match dget σ i with
 | some (.lst true xs) => (xs[xs.length - 1]?).map fun y => (y, σ.set i (some (.lst true xs.dropLast)))
 | _ => none
theorem zip_dropLast {α β : Type} {xs : List α} {ys : List β} {x : α} {y : β} (hl : xs.length = ys.length) (hx : xs[xs.length - 1]? = some x) (hy : ys[ys.length - 1]? = some y) : xs.zip ys = xs.dropLast.zip ys.dropLast ++ [(x, y)] := by
 have nx : xs ≠ [] := by rintro rfl; simp at hx
 have ny : ys ≠ [] := by rintro rfl; simp at hy
 have ex : xs.dropLast ++ [x] = xs := by
  have := List.dropLast_concat_getLast nx
  rw [List.getLast_eq_getElem] at this
  rw [List.getElem?_eq_getElem (by have := List.length_pos_iff.mpr nx; omega)] at hx
  cases hx; exact this
 have ey : ys.dropLast ++ [y] = ys := by
  have := List.dropLast_concat_getLast ny
  rw [List.getLast_eq_getElem] at this
  rw [List.getElem?_eq_getElem (by have := List.length_pos_iff.mpr ny; omega)] at hy
  cases hy; exact this
 have : (xs.dropLast ++ [x]).zip (ys.dropLast ++ [y]) = xs.dropLast.zip ys.dropLast ++ [x].zip [y] := List.zip_append (by simp [hl])
 rw [ex, ey] at this
 exact this
theorem qe_popV (i : Nat) {x : Str} {npos : Pos} (hN : X.N[i]? = some x := by rfl) (hv : Vis X.env.scope x := by first | exact Or.inl rfl | exact Or.inr (Or.inl rfl) | exact Or.inr (Or.inr rfl)) (hd : (x == ("__debug__" : Str)) = false := by decide)
  (hcd : (x == ("__classdict__" : Str)) = false := by decide) (hbase : attributeBase (.Name x npos) "pop" X.env (eval (.Name x npos) X.env) = eval (.Name x npos) X.env := by rfl) (hline : (apos.endLine == cpos.line) = true := by rfl) :
  QE X (.Call (.Attribute (.Name x npos) "pop" apos) [] [] cpos) (dPopV i) :=
 PE_imp (pe_bm0 PySem.F.plainAttrs_list PySem.F.slot_list_pop PySem.F.type_list_pop mt_pop (pe_var hN hv hd hcd) hbase hline) fun σ H Q hq0 => by
  obtain ⟨F, R, σD, d, σD', r, ec, k⟩ := hq0
  unfold dPopV at ec
  split at ec
  ·rename_i xs h2
   obtain ⟨y, e1, e2⟩ := map_pair ec
   cases e2
   obtain ⟨v0, hv0, r2⟩ := r.take (dget_some h2)
   obtain ⟨l, vs, lc, hl, hlen, upd'⟩ := Rel.listAt (S := []) (js := []) (xs := xs) r2 rfl
   cases lc
   have hz : ∃ z, vs[vs.length - 1]? = some z := by
    rw [← hlen]
    have : xs.length - 1 < vs.length := by rw [← hlen]; exact (List.getElem?_eq_some_iff.mp e1).1
    exact ⟨_, List.getElem?_eq_getElem this⟩
   obtain ⟨z, hz⟩ := hz
   obtain ⟨r3, x3⟩ := upd' xs.dropLast vs.dropLast [(d, z)] (by rw [zip_dropLast hlen e1 hz]; simp) (by simp [hlen])
   refine ⟨_, hv0, .inl ⟨rfl, vs, .inl (.inl hl)⟩, _, vs, z, rfl, rfl, hl, hz, ?_⟩
   have r4 := (Rel.put (R := (d, z) :: R) r3 hv0)
   rw [List.set_set] at r4
   exact k F _ z x3 r4
  ·cases ec
noncomputable def gSet (i : Nat) (js : List DP) (q : DP) : DG := fun d σ => (dget σ i).bind fun t => (evI js σ).bind fun path => (getP t path).bind fun n => match n with
 | .lst true xs => (q σ).bind fun y => match y with
  | .int k => (ixN xs.length k).map fun j => σ.set i (some (setP t path (.lst true (xs.set j d))))
  | _ => none
 | _ => none
theorem zip_set : ∀ {xs : List D} {vs : List V} {j : Nat} {d : D} {v : V}, xs.length = vs.length → j < xs.length → ∃ x w, ((xs.zip vs) ++ [(d, v)]).Perm ((xs.set j d).zip (vs.set j v) ++ [(x, w)])
 | x :: xs, w :: vs, 0, d, v, _, _ => ⟨x, w, by
   show ((x, w) :: (xs.zip vs ++ [(d, v)])).Perm ((d, v) :: (xs.zip vs ++ [(x, w)]))
   have h1 : ((x, w) :: (xs.zip vs ++ [(d, v)])).Perm ((x, w) :: (d, v) :: xs.zip vs) := (List.perm_append_comm).cons _
   have h2 : ((d, v) :: (xs.zip vs ++ [(x, w)])).Perm ((d, v) :: (x, w) :: xs.zip vs) := (List.perm_append_comm).cons _
   exact (h1.trans (.swap _ _ _)).trans h2.symm⟩
 | x :: xs, w :: vs, j + 1, d, v, hl, hj => by
  obtain ⟨y, u, h⟩ := zip_set (xs := xs) (vs := vs) (j := j) (d := d) (v := v) (by simpa using hl) (by simpa using hj)
  exact ⟨y, u, h.cons _⟩
theorem qg_set (ho : QP X o i js) (hq : QB X a q) (ha : ∀ v, assign (.Subscript o a pos) X.env v = (do
   let ov ← holding [v] (eval o X.env)
   let iv ← holding [v, ov] (eval a X.env)
   standAt pos
   holding [v, ov, iv] (setItem ov iv v)
   release [v, ov, iv] []) := by intro _; rfl) : QG X (.Subscript o a pos) (gSet i js q) [] := PG_imp (pg_sub ho hq set_list ha) fun v σ H Q hq0 => by
 obtain ⟨F, R, σD, d, σD', r, ec, k⟩ := hq0
 unfold gSet at ec
 rcases h1 : dget σD i with _ | t
 ·rw [h1] at ec; cases ec
 ·rw [h1] at ec; simp only [bind_some] at ec
  rcases h2 : evI js σD with _ | path
  ·rw [h2] at ec; cases ec
  ·rw [h2] at ec; simp only [bind_some] at ec
   rcases h3 : getP t path with _ | n
   ·rw [h3] at ec; cases ec
   ·rw [h3] at ec; simp only [bind_some] at ec
    split at ec
    ·rename_i xs
     rcases h4 : q σD with _ | y
     ·rw [h4] at ec; cases ec
     ·rw [h4] at ec; simp only [bind_some] at ec
      split at ec
      ·rename_i kk
       rcases h5 : ixN xs.length kk with _ | j
       ·rw [h5] at ec; cases ec
       ·rw [h5] at ec; cases ec
        obtain ⟨v0, hv0, r0⟩ := r.take (dget_some h1)
        obtain ⟨l0, vs0, lc0, hl0, _⟩ := Rel.listAt (S := [(d, v)]) r0 h3
        refine ⟨F, _, σD, v0, path, .ref l0, r, hv0, h2, lc0, fun F1 H1 g1 => ?_⟩
        refine ⟨F1, _, σD, _, r.grow g1, h4, fun F2 H2 u g2 b2 => ?_⟩
        have g3 := g1.trans g2
        obtain ⟨v1, hv1, r1⟩ := (r.grow g3).take (dget_some h1)
        rw [hv0] at hv1; cases hv1
        obtain ⟨l, vs, lc, hl, hlen, upd'⟩ := Rel.listAt (S := [(d, v)]) r1 h3
        have el : l0 = l := by
         have := (lc0.grow g3.k).uniq lc
         injection this
        subst el
        have hj : j < xs.length := (ixN_seq h5).2.1
        obtain ⟨xo, wo, pm⟩ := zip_set (d := d) (v := v) hlen hj
        obtain ⟨r3, x3⟩ := upd' (xs.set j d) (vs.set j v) [(xo, wo)] pm (by simp [hlen])
        refine ⟨l0, vs, kk, j, rfl, b2.int, hl, by rw [← hlen]; exact h5, ?_⟩
        have r4 := (Rel.put (R := (xo, wo) :: R) r3 hv0)
        rw [List.set_set] at r4
        exact k F2 _ σ (g3.x.trans x3) Kp.refl r4.pop
      ·cases ec
    ·cases ec
end
end DD
namespace DD
open PySem PySem.Spec PyProof.Rows L2
section
variable {K : PySem.W.Frag} {F F' : Addr → Prop} {H H' : Hp} {σD : DSt} {σ : St} {R S : Ro}
theorem OwL.drop : ∀ {n : Nat} {xs : List D} {vs : List V}, OwL K F H xs vs [] → OwL K F H (xs.drop n) (vs.drop n) []
 | 0, _, _, h => h
 | n + 1, [], vs, h => by simp only [OwL] at h; rw [h.1]; simp [OwL]
 | n + 1, x :: xs, vs, h => by
  simp only [OwL] at h
  obtain ⟨v, ws, L1, L2, rfl, h1, h2, e⟩ := h
  obtain ⟨rfl, rfl⟩ := List.append_eq_nil_iff.mp e.symm
  exact OwL.drop (n := n) h2
theorem OwL.take : ∀ {n : Nat} {xs : List D} {vs : List V}, OwL K F H xs vs [] → OwL K F H (xs.take n) (vs.take n) []
 | 0, _, _, _ => by simp [OwL]
 | n + 1, [], vs, h => by simp only [OwL] at h; rw [h.1]; simp [OwL]
 | n + 1, x :: xs, vs, h => by
  simp only [OwL] at h
  obtain ⟨v, ws, L1, L2, rfl, h1, h2, e⟩ := h
  obtain ⟨rfl, rfl⟩ := List.append_eq_nil_iff.mp e.symm
  simp only [List.take_succ_cons, OwL]
  exact ⟨v, ws.take n, [], [], rfl, h1, OwL.take (n := n) h2, rfl⟩
theorem Rel.pushL : ∀ {xs : List D} {vs : List V}, OwL K F H xs vs [] → Rel K F H σD σ R → Rel K F H σD σ (xs.zip vs ++ R)
 | [], vs, h, r => by simp only [OwL] at h; rw [h.1]; exact r
 | x :: xs, vs, h, r => by
  simp only [OwL] at h
  obtain ⟨v, ws, L1, L2, rfl, h1, h2, e⟩ := h
  obtain ⟨rfl, rfl⟩ := List.append_eq_nil_iff.mp e.symm
  exact (Rel.pushL h2 r).push h1
end
noncomputable def cutG {α : Type} (xs : List α) (lo hi : Option Int) : List α := (xs.drop (HT.sIx xs.length 0 lo)).take (HT.sIx xs.length xs.length hi - HT.sIx xs.length 0 lo)
noncomputable def evO : Option DP → DSt → Option (Option Int)
 | none, _ => some none
 | some p, σ => (p σ).bind fun d => match d with | .int i => some (some i) | _ => none
noncomputable def rO (K : PySem.W.Frag) (p : Option DP) : TO := fun σ H Q => ∃ F R σD o, Rel K F H σD σ R ∧ evO p σD = some o ∧ ∀ F' H', Grow F H F' H' → Q o H'
noncomputable def QO (X : Cx) (e : Option Expr) (p : Option DP) : Prop := PO X e (rO X.K p)
theorem PO_imp {X : Cx} {e : Option Expr} {t t' : TO} (h : PO X e t) (i : ∀ σ H Q, t' σ H Q → t σ H Q) : PO X e t' := fun pins s σ H Q I h' => h pins s σ H Q I (i σ H Q h')
section
variable {X : Cx} {e a b : Expr} {lo hi : Option Expr} {pl ph : Option DP} {p q : DP} {c c' : DE} {pos p2 : Pos} {i : Nat}
theorem qo_none : QO X none none := PO_imp po_none fun σ H Q hq0 => by obtain ⟨F, R, σD, o, r, ec, k⟩ := hq0; cases ec; exact k F H Grow.refl
theorem qo_some (h : QB X e p) : QO X (some e) (some p) := PO_imp (po_some h) fun σ H Q hq0 => by
 obtain ⟨F, R, σD, o, r, ec, k⟩ := hq0
 simp only [evO] at ec
 rcases h1 : p σD with _ | d
 ·rw [h1] at ec; cases ec
 ·rw [h1] at ec; simp only [bind_some] at ec
  split at ec
  ·cases ec
   exact ⟨F, R, σD, _, r, h1, fun F' H' v g b => ⟨_, b.int, k F' H' g⟩⟩
  ·cases ec
noncomputable def dSl (c : DE) (pl ph : Option DP) : DE := fun σ => (c σ).bind fun p => match p.1 with
 | .lst _ xs => (evO pl p.2).bind fun l => (evO ph p.2).map fun h => (.lst true (cutG (D.fzL xs) l h), p.2)
 | _ => none
noncomputable def dCat (c c' : DE) : DE := fun σ => (c σ).bind fun p => (c' p.2).bind fun q => match p.1, q.1 with
 | .lst true xs, .lst true ys => if xs.length + ys.length ≤ sizeLine then some (.lst true (xs ++ ys), q.2) else none
 | _, _ => none
theorem qe_cat (ha : QE X a c) (hb : QE X b c') : QE X (.BinOp a .Add b pos) (dCat c c') := PE_imp (pe_op op_cat ha hb) fun σ H Q hq0 => by
 obtain ⟨F, R, σD, d, σD', r, ec, k⟩ := hq0
 unfold dCat at ec
 rcases h1 : c σD with _ | ⟨x, σ1⟩
 ·rw [h1] at ec; cases ec
 ·rw [h1] at ec; simp only [bind_some] at ec
  rcases h2 : c' σ1 with _ | ⟨y, σ2⟩
  ·rw [h2] at ec; cases ec
  ·rw [h2] at ec; simp only [bind_some] at ec
   split at ec
   ·rename_i xs ys
    split at ec
    ·rename_i hz
     cases ec
     refine ⟨F, R, σD, _, σ1, r, h1, fun F1 H1 v x1 r1 => ?_⟩
     refine ⟨F1, _, σ1, _, _, r1, h2, fun F2 H2 u x2 r2 => ?_⟩
     obtain ⟨l2, ws, rfl, hw, hlw, r3⟩ := r2.openL
     have r3' := (r3.pop).perm (List.perm_middle (a := ((.lst true xs : D), v)) (l₁ := ys.zip ws) (l₂ := R))
     obtain ⟨l1, us, rfl, hu, hlu, r4⟩ := r3'.openL
     refine ⟨l1, l2, us, ws, rfl, rfl, hu, hw, by rw [← hlu, ← hlw]; exact hz, fun p hp => ?_⟩
     have r5 : Rel X.K F2 H2 σD' σ ((xs ++ ys).zip (us ++ ws) ++ R) := by
      rw [List.zip_append hlu, List.append_assoc]; exact r4.pop
     obtain ⟨r6, x6⟩ := r5.layL (by simp [hlu, hlw]) hp
     exact k F2 _ _ ((x1.trans x2).trans x6) r6
    ·cases ec
   ·cases ec
noncomputable def allSc (xs : List D) : Bool := xs.all fun d => d.sc.isSome
noncomputable def dRep (c c' : DE) : DE := fun σ => (c σ).bind fun p => (c' p.2).bind fun q => match p.1, q.1 with
 | .lst true xs, .int n => if allSc xs = true ∧ -(2 ^ 63) ≤ n ∧ n < 2 ^ 63 ∧ xs.length * n.toNat ≤ sizeLine then some (.lst true (List.replicate n.toNat xs).flatten, q.2) else none
 | _, _ => none
theorem OwL.sc {K : PySem.W.Frag} {F : Addr → Prop} {H : Hp} : ∀ {xs : List D} {vs : List V} {L : List Addr}, OwL K F H xs vs L → allSc xs = true → L = [] ∧ ∀ F' H', OwL K F' H' xs vs []
 | [], vs, L, h, _ => by simp only [OwL] at h ⊢; exact ⟨h.2, fun _ _ => ⟨h.1, trivial⟩⟩
 | x :: xs, vs, L, h, s => by
  simp only [OwL] at h
  obtain ⟨v, ws, L1, L2, rfl, h1, h2, rfl⟩ := h
  simp only [allSc, List.all_cons, Bool.and_eq_true] at s
  obtain ⟨w, hw⟩ := Option.isSome_iff_exists.mp s.1
  obtain ⟨rfl, rfl⟩ := h1.sc hw
  obtain ⟨rfl, h3⟩ := OwL.sc h2 s.2
  exact ⟨rfl, fun F' H' => by simp only [OwL]; exact ⟨v, ws, [], [], rfl, Ow.of_sc hw, h3 F' H', rfl⟩⟩
theorem OwL.app {K : PySem.W.Frag} {F : Addr → Prop} {H : Hp} : ∀ {xs ys : List D} {vs ws : List V}, OwL K F H xs vs [] → OwL K F H ys ws [] → OwL K F H (xs ++ ys) (vs ++ ws) []
 | [], ys, vs, ws, h, h' => by simp only [OwL] at h; rw [h.1]; exact h'
 | x :: xs, ys, vs, ws, h, h' => by
  simp only [OwL] at h
  obtain ⟨v, us, L1, L2, rfl, h1, h2, e⟩ := h
  obtain ⟨rfl, rfl⟩ := List.append_eq_nil_iff.mp e.symm
  simp only [List.cons_append, OwL]
  exact ⟨v, us ++ ws, [], [], rfl, h1, OwL.app h2 h', rfl⟩
theorem OwL.rep {K : PySem.W.Frag} {F : Addr → Prop} {H : Hp} {xs : List D} {vs : List V} (h : OwL K F H xs vs []) : ∀ n : Nat, OwL K F H (List.replicate n xs).flatten (List.replicate n vs).flatten []
 | 0 => by simp [OwL]
 | n + 1 => by
  rw [List.replicate_succ, List.replicate_succ, List.flatten_cons, List.flatten_cons]
  exact OwL.app h (OwL.rep h n)
theorem qe_rep (ha : QE X a c) (hb : QE X b c') : QE X (.BinOp a .Mult b pos) (dRep c c') := PE_imp (pe_op op_rep ha hb) fun σ H Q hq0 => by
 obtain ⟨F, R, σD, d, σD', r, ec, k⟩ := hq0
 unfold dRep at ec
 rcases h1 : c σD with _ | ⟨x, σ1⟩
 ·rw [h1] at ec; cases ec
 ·rw [h1] at ec; simp only [bind_some] at ec
  rcases h2 : c' σ1 with _ | ⟨y, σ2⟩
  ·rw [h2] at ec; cases ec
  ·rw [h2] at ec; simp only [bind_some] at ec
   split at ec
   ·rename_i xs n
    split at ec
    ·rename_i hz
     cases ec
     refine ⟨F, R, σD, _, σ1, r, h1, fun F1 H1 v x1 r1 => ?_⟩
     refine ⟨F1, _, σ1, _, _, r1, h2, fun F2 H2 u x2 r2 => ?_⟩
     have hu : u = .int n := (r2.bor (by simp)).int
     have r3 := r2.pop
     obtain ⟨l, vs, rfl, hw, hlw, r4⟩ := r3.openL
     obtain ⟨L, ⟨L1, L2, o1, h12, _⟩, _, _⟩ := r3.front.own
     simp only [Ow] at o1
     obtain ⟨l', vs', L', e1, e2, ol, _⟩ := o1
     cases e1
     rw [hw] at e2; cases e2
     have os := (ol.sc hz.1).2 F2 H2
     refine ⟨l, n, vs, rfl, hu, hw, hz.2.1, hz.2.2.1, by rw [← hlw]; exact hz.2.2.2, fun p hp => ?_⟩
     have orp := os.rep n.toNat
     obtain ⟨r6, x6⟩ := (Rel.pushL orp r3.pop).layL orp.length.symm hp
     exact k F2 _ _ ((x1.trans x2).trans x6) r6
    ·cases ec
   ·cases ec
noncomputable def gNeg : D → Option D
 | .int i => some (.int (-i))
 | _ => none
noncomputable def pNeg (p : DP) : DP := fun σ => (p σ).bind gNeg
theorem gNeg_some {x d : D} (h : gNeg x = some d) : ∃ i, x = .int i ∧ d = .int (-i) := by
 cases x <;> first | (cases h; exact ⟨_, rfl, rfl⟩) | cases h
theorem qb_neg (ha : QB X a p) : QB X (.UnaryOp .USub a pos) (pNeg p) := PE_imp (pe_un un_neg ha) fun σ H Q hq0 => by
 obtain ⟨F, R, σD, d, r, ec, k⟩ := hq0
 unfold pNeg at ec
 rcases h1 : p σD with _ | x
 ·rw [h1] at ec; cases ec
 ·rw [h1] at ec; simp only [bind_some] at ec
  obtain ⟨i, rfl, rfl⟩ := gNeg_some ec
  exact ⟨F, R, σD, _, r, h1, fun F1 H1 v g1 b1 => ⟨i, b1.int, k F1 H1 _ g1 ⟨[], Ow.of_sc rfl⟩⟩⟩
variable {rest : List Expr}
end
end DD
namespace L2
open PySem PySem.Spec PyProof.Rows
noncomputable def Itz (K : PySem.W.Frag) (a b : Addr) : It :=
 ⟨fun i H => ∃ xs ys x y, SqL K H a xs ∧ SqL K H b ys ∧ xs[i]? = some x ∧ ys[i]? = some y,
  fun i H x H' => ∃ p u w, (∀ xs, SqL K H a xs → xs[i]? = some u) ∧ (∀ ys, SqL K H b ys → ys[i]? = some w) ∧ H p = none ∧ H' = upd H p (.tup [u, w]) ∧ x = .ref p,
  fun i H => ∃ xs ys, SqL K H a xs ∧ SqL K H b ys ∧ (xs.length ≤ i ∨ ys.length ≤ i)⟩
theorem Inv.turnT {X : Cx} {pins : List (Addr × Obj)} {σ : St} {H : Hp} {s : Shared} {h' : Heap} {ch : List Addr} {u w : V} {x y : Value} (I : Inv X pins σ H s) (hf : ∀ b ∈ ch, FpOk X pins H b) (ru : RelV u x) (rw' : RelV w y)
  (hk : ∀ c o, c ∉ ch → s.heap.get? c = some o → h'.get? c = some o) (hT : IsPair h' s.heap.objs.size x y) (hth : ∀ b ∈ ch, ∃ o, h'.get? b = some o) : Inv X pins σ (upd H s.heap.objs.size (.tup [u, w])) { s with heap := h' } := by
 have hfr : H s.heap.objs.size = none := I.fresh
 have nch : ∀ b o, H b = some o → b ∉ ch := fun b o e hb => by rw [(hf b hb).1] at e; cases e
 have ne : ∀ b o, s.heap.get? b = some o → b ≠ s.heap.objs.size := fun b o e => Nat.ne_of_lt (Heap.lt_size e)
 refine I.step (g' := s.gens) (d' := s.drawn) (t' := s.toks) (ch := ch) (fun b hb => ⟨(hf b hb).2.2.2.1, (hf b hb).2.1, (hf b hb).2.2.2.2.1, (hf b hb).2.2.2.2.2⟩) (fun b o _ _ hc e _ => hk b o hc e)
  (fun b o _ _ hc e _ => ⟨o.slots, hk b o hc e⟩) (fun b o _ e n => by rw [upd_ne (ne b o e)]; exact n) (fun b o hc e => ⟨o, hk b o hc e⟩) (fun b xs e => by rw [upd_ne (ne_of_none e hfr)]; exact e)
  (fun b o v e => by rw [upd_ne (ne_of_none e hfr)]; exact e) (fun b ps e => ⟨#[], by rw [upd_ne (ne_of_none e hfr), e]; simp⟩) (fun m hm => ?_) (fun b o e => ?_) I.bare
 ·obtain ⟨o, es, ep, ho, r⟩ := hm
  exact ⟨o, es, ep, hk _ o (fun z => (hf _ z).2.1 rfl) ho, r⟩
 ·by_cases hb : b = s.heap.objs.size
  ·subst hb
   rw [upd_same] at e
   cases e
   refine ⟨by show 2 ≤ sizeLine; decide, [x, y], .cons ru (.cons rw' .nil), ⟨_, hT, rfl, _, rfl⟩⟩
  ·rw [upd_ne hb] at e
   refine (I.hok b o e).stay (fun c v hc q => hk c v ?_ q) (fun c q => by rw [upd_ne (ne_of_none q hfr)]; exact q) fun c xs q => by rw [upd_ne (ne_of_none q hfr)]; exact q
   rcases hc with rfl | hc
   ·exact nch _ _ e
   ·exact nch _ _ hc
theorem Inv.turnN {X : Cx} {pins : List (Addr × Obj)} {σ : St} {H : Hp} {s : Shared} {h' : Heap} {ch : List Addr} (I : Inv X pins σ H s) (hf : ∀ b ∈ ch, FpOk X pins H b)
  (hk : ∀ c o, c ∉ ch → s.heap.get? c = some o → h'.get? c = some o) : Inv X pins σ H { s with heap := h' } := by
 have nch : ∀ b o, H b = some o → b ∉ ch := fun b o e hb => by rw [(hf b hb).1] at e; cases e
 refine I.step (g' := s.gens) (d' := s.drawn) (t' := s.toks) (ch := ch) (fun b hb => ⟨(hf b hb).2.2.2.1, (hf b hb).2.1, (hf b hb).2.2.2.2.1, (hf b hb).2.2.2.2.2⟩) (fun b o _ _ hc e _ => hk b o hc e)
  (fun b o _ _ hc e _ => ⟨o.slots, hk b o hc e⟩) (fun b o _ e n => n) (fun b o hc e => ⟨o, hk b o hc e⟩) (fun b xs e => e)
  (fun b o v e => e) (fun b ps e => ⟨#[], by rw [e]; simp⟩) (fun m hm => ?_) (fun b o e => ?_) I.bare
 ·obtain ⟨o, es, ep, ho, r⟩ := hm
  exact ⟨o, es, ep, hk _ o (fun z => (hf _ z).2.1 rfl) ho, r⟩
 ·refine (I.hok b o e).stay (fun c v hc q => hk c v ?_ q) (fun c q => q) fun c xs q => q
  rcases hc with rfl | hc
  ·exact nch _ _ e
  ·exact nch _ _ hc
theorem list_tracked {X : Cx} {pins : List (Addr × Obj)} {σ : St} {H : Hp} {s : Shared} {a b : Addr} {xs : List V} (I : Inv X pins σ H s) (h : SqL X.K H a xs) (hb : FpOk X pins H b) (hob : ∃ o, s.heap.get? b = some o ∧ o.cls ≠ .type "list") : a ≠ b := by
 rintro rfl
 obtain ⟨its, r, ⟨o, n, e, c, _⟩, _⟩ := I.list h
 obtain ⟨o', e', c'⟩ := hob
 rw [e] at e'; cases e'
 exact c' c
theorem turn_zip {P : Program} {w : World} {K : PySem.W.Frag} {elts : List Expr} {x1 : Nat} {tpos : Pos} (a b z TI TO i1 i2 : Addr) (D1 : TI ≠ z) (D2 : TO ≠ z) (D3 : i1 ≠ z) (D4 : i2 ≠ z) (D5 : TI ≠ TO) (D6 : TI ≠ i1) (D7 : TI ≠ i2) (D8 : TO ≠ i1) (D9 : TO ≠ i2) (D10 : i1 ≠ i2) :
  Turn P w K (.Tuple elts x1 tpos) (Itz K a b) [z, TI, TO, i1, i2] z (fun i h => IsZip h z TI TO .none ∧ IsPair h TI (.ref i1) (.ref i2) ∧ (∃ u v, IsPair h TO u v) ∧ h.IsListIter i1 a i ∧ h.IsListIter i2 b i) where
 mem := by simp
 obj := fun i h hq0 c hc => by
  obtain ⟨hz, hTI, ⟨u, v, hTO⟩, ⟨o1, e1, c1, d1⟩, ⟨o2, e2, c2, d2⟩⟩ := hq0
  simp only [List.mem_cons, List.not_mem_nil, or_false] at hc
  rcases hc with rfl | rfl | rfl | rfl | rfl
  ·exact ⟨_, hz, fun v z => nomatch z⟩
  ·exact ⟨_, hTI, fun v z => nomatch z⟩
  ·exact ⟨_, hTO, fun v z => nomatch z⟩
  ·exact ⟨_, e1, fun v z => by rw [d1] at z; cases z⟩
  ·exact ⟨_, e2, fun v z => by rw [d2] at z; cases z⟩
 keep := fun i h h' ⟨hz, hTI, ⟨u, v, hTO⟩, h1, h2⟩ k => ⟨k z (by simp) _ hz, k TI (by simp) _ hTI, ⟨u, v, k TO (by simp) _ hTO⟩, h1.at fun o e => k i1 (by simp) o e, h2.at fun o e => k i2 (by simp) o e⟩
 item := by
  rintro X hP hw hK hc i pins s σ H E I hf ⟨hz, hTI, ⟨ua, ub, hTO⟩, h1, h2⟩ ⟨xs, ys, x, y, hq1, hq2, hx, hy⟩
  subst hP hw hK
  obtain ⟨its1, rv1, p1, _⟩ := I.list hq1
  obtain ⟨its2, rv2, p2, _⟩ := I.list hq2
  obtain ⟨u1, hu1, ru1⟩ := rv1.get hx
  obtain ⟨u2, hu2, ru2⟩ := rv2.get hy
  have ob : ∀ c ∈ [z, TO, i1, i2], ∃ o, s.heap.get? c = some o ∧ o.cls ≠ .type "list" := fun c hc => by
   obtain ⟨o1, e1, c1, d1⟩ := id h1
   obtain ⟨o2, e2, c2, d2⟩ := id h2
   simp only [List.mem_cons, List.not_mem_nil, or_false] at hc
   rcases hc with rfl | rfl | rfl | rfl
   ·exact ⟨_, hz, by simp⟩
   ·exact ⟨_, hTO, by simp⟩
   ·exact ⟨_, e1, by rw [c1]; simp⟩
   ·exact ⟨_, e2, by rw [c2]; simp⟩
  have na : ∀ c ∈ [z, TO, i1, i2], a ≠ c := fun c hc => list_tracked I hq1 (hf c (by simp at hc ⊢; rcases hc with h | h | h | h <;> simp [h])) (ob c hc)
  have nb : ∀ c ∈ [z, TO, i1, i2], b ≠ c := fun c hc => list_tracked I hq2 (hf c (by simp at hc ⊢; rcases hc with h | h | h | h <;> simp [h])) (ob c hc)
  have D : ZipApart z TI TO i1 i2 a b := ⟨D1, D2, D3, D4, D5, D6, D7, D8, D9, D10, na z (by simp), na TO (by simp), na i1 (by simp), na i2 (by simp), nb z (by simp), nb TO (by simp), nb i1 (by simp), nb i2 (by simp)⟩
  refine wpAny_pyNext_zip_item D hz hTI hTO h1 h2 p1.isList p2.isList (x := u1) (y := u2) (by simpa using hu1) (by simpa using hu2) fun h' a1 a2 a3 a4 a5 a6 hk => ?_
  have hf4 : ∀ c ∈ [z, TO, i1, i2], FpOk X pins H c := fun c hc => hf c (by simp at hc ⊢; rcases hc with h | h | h | h <;> simp [h])
  have hk' : ∀ c o, c ∉ [z, TO, i1, i2] → s.heap.get? c = some o → h'.get? c = some o := fun c o hc e => hk c o (fun q => hc (by simp [q])) (fun q => hc (by simp [q])) (fun q => hc (by simp [q])) (fun q => hc (by simp [q])) e
  have I1 : Inv X pins σ (upd H s.heap.objs.size (.tup [x, y])) { s with heap := h' } := I.turnT hf4 ru1 ru2 hk' a5 (fun c hc => by
   obtain ⟨o1, e1, _⟩ := id a3
   obtain ⟨o2, e2, _⟩ := id a4
   simp only [List.mem_cons, List.not_mem_nil, or_false] at hc
   rcases hc with rfl | rfl | rfl | rfl
   ·exact ⟨_, a1⟩
   ·exact ⟨_, a2⟩
   ·exact ⟨_, e1⟩
   ·exact ⟨_, e2⟩)
  have hfr : H s.heap.objs.size = none := I.fresh
  refine ⟨_, rfl, wpAny_letOwnedTupleGo_zip (s := { s with heap := h' }) a1 fun h'' z1 sb => ?_⟩
  have hf5 : ∀ c ∈ [z, TI, TO, i1, i2], (upd H s.heap.objs.size (.tup [x, y])) c = none := fun c hc => by
   have lt : c < s.heap.objs.size := by
    obtain ⟨o1, e1, _⟩ := id h1
    obtain ⟨o2, e2, _⟩ := id h2
    simp only [List.mem_cons, List.not_mem_nil, or_false] at hc
    rcases hc with rfl | rfl | rfl | rfl | rfl
    ·exact Heap.lt_size hz
    ·exact Heap.lt_size hTI
    ·exact Heap.lt_size hTO
    ·exact Heap.lt_size e1
    ·exact Heap.lt_size e2
   rw [upd_ne (Nat.ne_of_lt lt)]; exact (hf c hc).1
  have I2 : Inv X pins σ (upd H s.heap.objs.size (.tup [x, y])) { s with heap := h'' } := Inv.turnN (s := { s with heap := h' }) (ch := [z]) I1 (fun c hc => by
   have : c = z := by simpa using hc
   subst this
   exact ⟨hf5 c (by simp), (hf c (by simp)).2⟩) (fun c o hc e => (sb.2 c (fun q => hc (by simp [q]))).trans e)
  refine ⟨.ref s.heap.objs.size, _, I2, rfl, ⟨_, x, y, fun zs hzs => by rw [I.list_inj hzs hq1]; exact hx, fun zs hzs => by rw [I.list_inj hzs hq2]; exact hy, hfr, rfl, rfl⟩, ⟨z1, ?_, ⟨u1, u2, ?_⟩, ?_, ?_⟩, hf5⟩
  ·exact (sb.2 TI D1).trans (hk' TI _ (by simp [D1, D5, D6, D7]) hTI)
  ·exact (sb.2 TO D2).trans a2
  ·exact a3.at fun o e => (sb.2 i1 D3).trans e
  ·exact a4.at fun o e => (sb.2 i2 D4).trans e
 done := by
  rintro X hP hw hK hc i pins s σ H E I hf ⟨hz, hTI, ⟨ua, ub, hTO⟩, h1, h2⟩ ⟨xs, ys, hq1, hq2, hend⟩
  subst hP hw hK
  obtain ⟨its1, rv1, p1, _⟩ := I.list hq1
  obtain ⟨its2, rv2, p2, _⟩ := I.list hq2
  have ob : ∀ c ∈ [z, TO, i1, i2], ∃ o, s.heap.get? c = some o ∧ o.cls ≠ .type "list" := fun c hc => by
   obtain ⟨o1, e1, c1, d1⟩ := id h1
   obtain ⟨o2, e2, c2, d2⟩ := id h2
   simp only [List.mem_cons, List.not_mem_nil, or_false] at hc
   rcases hc with rfl | rfl | rfl | rfl
   ·exact ⟨_, hz, by simp⟩
   ·exact ⟨_, hTO, by simp⟩
   ·exact ⟨_, e1, by rw [c1]; simp⟩
   ·exact ⟨_, e2, by rw [c2]; simp⟩
  have hf4 : ∀ c ∈ [z, TO, i1, i2], FpOk X pins H c := fun c hc => hf c (by simp at hc ⊢; rcases hc with h | h | h | h <;> simp [h])
  have na : ∀ c ∈ [z, TO, i1, i2], a ≠ c := fun c hc => list_tracked I hq1 (hf4 c hc) (ob c hc)
  have nb : ∀ c ∈ [z, TO, i1, i2], b ≠ c := fun c hc => list_tracked I hq2 (hf4 c hc) (ob c hc)
  have D : ZipApart z TI TO i1 i2 a b := ⟨D1, D2, D3, D4, D5, D6, D7, D8, D9, D10, na z (by simp), na TO (by simp), na i1 (by simp), na i2 (by simp), nb z (by simp), nb TO (by simp), nb i1 (by simp), nb i2 (by simp)⟩
  have hl1 := rv1.length
  have hl2 := rv2.length
  refine wpAny_pyNext_zip_end (I.ok.hd hc) D hz hTI hTO h1 h2 p1.isList p2.isList (by rcases hend with h | h; (left; simp; omega); (right; simp; omega)) fun h' hk => ⟨rfl, ?_⟩
  exact I.turnN hf4 fun c o hc e => hk c o (fun q => hc (by simp [q])) (fun q => hc (by simp [q])) (fun q => hc (by simp [q])) (fun q => hc (by simp [q])) e
 self := fun _ _ _ _ _ ⟨hz, _⟩ h => wpAny_pyIter_zip hz h
end L2
namespace L2
open PySem PySem.Spec PyProof.Rows
noncomputable def iZip (K : PySem.W.Frag) (ta : TA) : TI := fun σ H R => ta σ H fun vs H1 => ∃ a b, vs = [.ref a, .ref b] ∧ (∃ xs, SqL K H1 a xs) ∧ (∃ ys, SqL K H1 b ys) ∧ R (Itz K a b) H1
theorem pi_zip {X : Cx} {elts : List Expr} {x1 : Nat} {tpos : Pos} {a b : Expr} {ta : TA} {p pos : Pos} (hg : Gl X "zip") (hm : X.mg "zip" = none) (ha : PA X [a, b] ta) (hs : starEach [a, b] X.env = [(false, eval a X.env), (false, eval b X.env)] := by rfl) (hs2 : starEach [b] X.env = [(false, eval b X.env)] := by rfl) :
  PI X (.Tuple elts x1 tpos) (.Call (.Name "zip" p) [a, b] [] pos) (iZip X.K ta) := by
 intro pins s σ H R I h
 refine Call_ (ld_blt I hg hm boot_zip (PyProof.Rows.callWith_type1 (thn (ha pos pins s σ H _ I h) fun us s1 ⟨vs, H1, I1, r1, q1⟩ => ?_) (by rw [hs, hs2]) (by rw [hs2]; rfl)))
 obtain ⟨l1, l2, e, ⟨xs, hq1⟩, ⟨ys, hq2⟩, q⟩ := q1
 subst e
 cases r1 with
 | cons r rr =>
  cases rr with
  | cons r' rr =>
   cases rr
   cases r
   cases r'
   obtain ⟨its1, rv1, p1, _⟩ := I1.list hq1
   obtain ⟨its2, rv2, p2, _⟩ := I1.list hq2
   refine call_zip_2 p1.isList p2.isList fun h' hz hTI hTO h1 h2 hsz hk => ?_
   have I2 : Inv X pins σ H1 { s1 with heap := h' } := I1.kept (t' := s1.toks) hk
   refine wpAny_pyIter_zip (s := { s1 with heap := h' }) hz ?_
   have lt : ∀ k : Nat, s1.heap.objs.size ≤ s1.heap.objs.size + k := fun k => Nat.le_add_right _ _
   refine ⟨_, [s1.heap.objs.size + 4, s1.heap.objs.size + 2, s1.heap.objs.size + 3, s1.heap.objs.size, s1.heap.objs.size + 1], _, _, H1, rfl, I2,
    turn_zip l1 l2 (s1.heap.objs.size + 4) (s1.heap.objs.size + 2) (s1.heap.objs.size + 3) s1.heap.objs.size (s1.heap.objs.size + 1) ?_ ?_ ?_ ?_ ?_ ?_ ?_ ?_ ?_ ?_, ⟨hz, hTI, ⟨_, _, hTO⟩, h1, h2⟩, fun c hc => ?_, q⟩
   all_goals first
    | (show _ + _ ≠ _ + _; intro z; exact absurd (Nat.add_left_cancel z) (by decide))
    | (show _ ≠ _ + _; intro z; exact absurd z (by have := Nat.lt_add_of_pos_right (n := s1.heap.objs.size) (k := 4) (by decide); have := Nat.lt_add_of_pos_right (n := s1.heap.objs.size) (k := 1) (by decide); exact Nat.ne_of_lt (by assumption)))
    | (show _ + _ ≠ _; exact Nat.ne_of_gt (Nat.lt_add_of_pos_right (by decide)))
    | skip
   have hle : s1.heap.objs.size ≤ c := by
    simp only [List.mem_cons, List.not_mem_nil, or_false] at hc
    rcases hc with rfl | rfl | rfl | rfl | rfl
    ·exact lt 4
    ·exact lt 2
    ·exact lt 3
    ·exact Nat.le_refl _
    ·exact lt 1
   obtain ⟨f0, f1, f2, f3, f4, f5⟩ := I1.fpOk hle (I1.hok.fresh hle)
   exact ⟨f0, f1, f2, f3, f4, f5⟩
end L2
namespace DD
open PySem PySem.Spec PyProof.Rows L2
noncomputable def iZipD (c c' : DE) : DI := fun σ => (c σ).bind fun p => (c' p.2).bind fun q => match p.1, q.1 with
 | .lst _ xs, .lst _ ys => some (((D.fzL xs).zip (D.fzL ys)).map fun z => .tup [z.1, z.2], q.2)
 | _, _ => none
theorem itd_zip {K : PySem.W.Frag} {F : Addr → Prop} {H : Hp} {xs ys : List D} {a b : Addr} {vs ws : List V} (fl : FL K F H a vs) (ol : OwL K F H xs vs []) (fl' : FL K F H b ws) (ol' : OwL K F H ys ws []) :
  ItD K (Itz K a b) ((xs.zip ys).map fun z => .tup [z.1, z.2]) F H where
 item := fun i d F1 H1 x1 dm e => by
  rw [List.getElem?_map] at e
  rcases hz : (xs.zip ys)[i]? with _ | ⟨x, y⟩
  ·rw [hz] at e; cases e
  ·rw [hz] at e; cases e
   obtain ⟨hx, hy⟩ := List.getElem?_zip_eq_some.mp hz
   obtain ⟨u, La, Lx, Lb, e1, eL, o1, _⟩ := ol.kid hx
   have eLx : Lx = [] := (List.append_eq_nil_iff.mp (List.append_eq_nil_iff.mp eL.symm).1).2
   subst eLx
   obtain ⟨w, La', Lx', Lb', e2, eL', o2, _⟩ := ol'.kid hy
   have eLx' : Lx' = [] := (List.append_eq_nil_iff.mp (List.append_eq_nil_iff.mp eL'.symm).1).2
   subst eLx'
   refine ⟨⟨vs, ws, u, w, (fl.ext x1).sq, (fl'.ext x1).sq, e1, e2⟩, fun v H2 ⟨p, u', w', h1, h2, hp, hH, hv⟩ => ?_⟩
   subst hH hv
   have h1' := h1 vs (fl.ext x1).sq
   rw [e1] at h1'; cases h1'
   have h2' := h2 ws (fl'.ext x1).sq
   rw [e2] at h2'; cases h2'
   have nF : ∀ c, F1 c → c ≠ p := fun c fc z => by obtain ⟨o, h⟩ := dm c fc; rw [z, hp] at h; cases h
   have gr : Grow F1 H1 (fun c => F1 c ∨ c = p) (upd H1 p (.tup [u, w])) := by
    refine ⟨fun c fc => ⟨.inl fc, upd_ne (nF c fc)⟩, fun c o e => by rw [upd_ne (ne_of_none e hp)]; exact e, fun c fc => ?_, fun _ c fc => ?_⟩
    ·rcases fc with fc | fc
     ·exact .inl fc
     ·exact .inr (fc ▸ hp)
    ·rcases fc with fc | fc
     ·rw [upd_ne (nF c fc)]; exact dm c fc
     ·subst fc; exact ⟨_, upd_same⟩
   refine ⟨_, gr, ?_⟩
   simp only [Ow, OwL]
   refine ⟨p, [u, w], rfl, .inl ⟨.inr rfl, upd_same⟩, u, [w], [], [], rfl, (o1.mono x1 (fun a ha => by cases ha)).mono gr.x (fun a ha => by cases ha), ⟨w, [], [], [], rfl, (o2.mono x1 (fun a ha => by cases ha)).mono gr.x (fun a ha => by cases ha), ⟨rfl, rfl⟩, rfl⟩, rfl⟩
 done := fun F1 H1 x1 => ⟨vs, ws, (fl.ext x1).sq, (fl'.ext x1).sq, by
  have h1 := ol.length
  have h2 := ol'.length
  simp only [List.length_map, List.length_zip]
  omega⟩
section
variable {X : Cx} {a b o e : Expr} {c c' : DE} {p p1 pos1 : Pos} {elts : List Expr} {x1 : Nat} {tpos pos : Pos}
theorem qi_zip (hgl : Gl X "zip") (hm : X.mg "zip" = none) (ha : QE X a c) (hb : QE X b c') (hs : starEach [a, b] X.env = [(false, eval a X.env), (false, eval b X.env)] := by rfl) (hs2 : starEach [b] X.env = [(false, eval b X.env)] := by rfl) :
  QI X (.Tuple elts x1 tpos) (.Call (.Name "zip" p1) [a, b] [] pos1) (iZipD c c') := PI_imp (pi_zip hgl hm (pa_cons ha (pa_cons hb pa_nil hs2) (by rw [hs, hs2])) hs hs2) fun σ H R hq0 => by
 obtain ⟨F, Ro, σD, xs, σD', r, ec, k⟩ := hq0
 unfold iZipD at ec
 rcases h1 : c σD with _ | ⟨x, σ1⟩
 ·rw [h1] at ec; cases ec
 ·rw [h1] at ec; simp only [bind_some] at ec
  rcases h2 : c' σ1 with _ | ⟨y, σ2⟩
  ·rw [h2] at ec; cases ec
  ·rw [h2] at ec; simp only [bind_some] at ec
   split at ec
   ·cases ec
    refine ⟨F, Ro, σD, _, σ1, r, h1, fun F1 H1 v x1 r1 => ?_⟩
    refine ⟨F1, _, σ1, _, _, r1, h2, fun F2 H2 u x2 r2 => ?_⟩
    obtain ⟨F3, x3, r3, o3⟩ := r2.freeze
    obtain ⟨F4, x4, r4, o4⟩ := (r3.pop).freeze
    have o3' := o3.mono x4 (fun a ha => by cases ha)
    simp only [D.fz, Ow] at o3' o4
    obtain ⟨a1, vs, rfl, fl, ol, _⟩ := o4
    obtain ⟨a2, ws, rfl, fl', ol', _⟩ := o3'
    exact ⟨a1, a2, rfl, ⟨vs, fl.sq⟩, ⟨ws, fl'.sq⟩, k F4 H2 _ ((x1.trans x2).trans (x3.trans x4)) r4.pop (itd_zip fl ol fl' ol')⟩
   ·cases ec
theorem zip_get {xs : List D} {vs : List V} {j : Nat} {x : D} {w : V} (h1 : xs[j]? = some x) (h2 : vs[j]? = some w) : (x, w) ∈ xs.zip vs := by
 have : (xs.zip vs)[j]? = some (x, w) := List.getElem?_zip_eq_some.mpr ⟨h1, h2⟩
 exact List.mem_of_getElem? this
theorem Rel.pick {K : PySem.W.Frag} {F : Addr → Prop} {H : Hp} {σD : DSt} {σ : St} {R S : Ro} {x : D} {w : V} (r : Rel K F H σD σ (S ++ R)) (h : (x, w) ∈ S) : Rel K F H σD σ ((x, w) :: R) := by
 obtain ⟨A, B, rfl⟩ := List.append_of_mem h
 have r1 : Rel K F H σD σ ((A ++ B) ++ ((x, w) :: R)) := r.perm (by
  have h1 : A ++ (x, w) :: B ++ R = A ++ ((x, w) :: (B ++ R)) := by simp
  rw [h1, List.append_assoc]
  exact (List.perm_middle.symm).append_left A)
 exact r1.popN
theorem qe_ix (ha : QE X a c) (hb : QE X b c') (hs : PlainIx b := by intro _ _; rfl) : QE X (.Subscript a b pos) (dIx c c') := PE_imp (pe_ix ix_seq ha hb hs) fun σ H Q hq0 => by
 obtain ⟨F, R, σD, d, σD', r, ec, k⟩ := hq0
 unfold dIx at ec
 rcases h1 : c σD with _ | ⟨x, σ1⟩
 ·rw [h1] at ec; cases ec
 ·rw [h1] at ec; simp only [bind_some] at ec
  rcases h2 : c' σ1 with _ | ⟨y, σ2⟩
  ·rw [h2] at ec; cases ec
  ·rw [h2] at ec; simp only [bind_some] at ec
   obtain ⟨z, e1, e2⟩ := map_pair ec
   cases e2
   refine ⟨F, R, σD, x, σ1, r, h1, fun F1 H1 v x1 r1 => ?_⟩
   refine ⟨F1, _, σ1, y, _, r1, h2, fun F2 H2 u x2 r2 => ?_⟩
   have bu := r2.bor (d := y) (v := u) (by simp)
   have r3 := r2.pop
   unfold ixD at e1
   split at e1
   ·rename_i own xs i
    obtain ⟨j, hj, hx⟩ := atI_ix e1
    cases own
    ·obtain ⟨L, ⟨L1, L2, o1, h12, _⟩, _, _⟩ := r3.front.own
     simp only [Ow] at o1
     obtain ⟨a1, vs, rfl, fl, ol, _⟩ := o1
     obtain ⟨w, La, Lx, Lb, ew, eL, ox, _⟩ := ol.kid hx
     have eLx : Lx = [] := (List.append_eq_nil_iff.mp (List.append_eq_nil_iff.mp eL.symm).1).2
     subst eLx
     refine .inl ⟨a1, vs, i, w, rfl, bu.int, fl.sq, ?_, k F2 H2 w (x1.trans x2) (r3.pop.push ox)⟩
     unfold atI; rw [ol.length, hj]; exact ew
    ·obtain ⟨a1, vs, rfl, hh, hl, r4⟩ := r3.openL
     have hjl : j < vs.length := by rw [← hl]; exact (List.getElem?_eq_some_iff.mp hx).1
     have ew := List.getElem?_eq_getElem hjl
     refine .inl ⟨a1, vs, i, vs[j], rfl, bu.int, .inl (.inl hh), ?_, k F2 H2 _ (x1.trans x2) (r4.pop.pick (zip_get hx ew))⟩
     unfold atI; rw [← hl, hj]; exact ew
   ·rename_i xs i
    obtain ⟨j, hj, hx⟩ := atI_ix e1
    obtain ⟨a1, vs, rfl, ft, hl, r4⟩ := r3.openT
    have hjl : j < vs.length := by rw [← hl]; exact (List.getElem?_eq_some_iff.mp hx).1
    have ew := List.getElem?_eq_getElem hjl
    refine .inr (.inl ⟨a1, vs, i, vs[j], rfl, bu.int, ft.sq, ?_, k F2 H2 _ (x1.trans x2) (r4.pick (zip_get hx ew))⟩)
    unfold atI; rw [← hl, hj]; exact ew
   ·split at e1
    ·rename_i z2 i hz
     rcases h : atI z2.cps.toList i with _ | ch
     ·rw [h] at e1; cases e1
     ·rw [h] at e1; cases e1
      exact .inr (.inr ⟨z2, i, ch, (r3.bor (by simp)).str, bu.int, hz, h, k F2 H2 _ (x1.trans x2) (r3.pop.scal rfl)⟩)
    ·cases e1
   ·cases e1
end
end DD
namespace L2
open PySem PySem.Spec PyProof.Rows
theorem get_list {X : Cx} : PGet X (fun o i H Q => ∃ p xs k v, o = .ref p ∧ i = .int k ∧ SqL X.K H p xs ∧ atI xs k = some v ∧ Q v H) := by
 rintro pins s σ H o i ov iv Q I ro ri ⟨p, xs, k, v, e1, e2, hq, he, q⟩
 subst e1 e2
 cases ro
 obtain ⟨t, rfl⟩ := ri
 obtain ⟨its, r, pl, hz⟩ := I.list hq
 obtain ⟨j, h1, h2, h3, h4, h5⟩ := atI_get he
 obtain ⟨w, ew, rw'⟩ := r.get h2
 have hl := r.length
 have hn := line63
 have fin : EP X pins σ Q w s := ⟨v, H, I, rw', q⟩
 by_cases h0 : 0 ≤ k
 ·have hj : k.toNat = j := by
   rw [seqIndex_of h0 h5] at h1
   exact Option.some.inj h1
  exact wpAny_getItem_list pl.isList h0 (by omega) (by rw [hj]; simpa using ew) fin
 ·have hj : (k + (its.toArray.size : Int)).toNat = j := by
   rw [seqIndex_neg (by omega) h4] at h1
   rw [List.size_toArray, ← hl]
   exact Option.some.inj h1
  exact wpAny_getItem_list_neg pl.isList (by omega) (by rw [List.size_toArray] <;> omega) (by omega) (by rw [hj]; simpa using ew) fin
end L2
namespace DD
open PySem PySem.Spec PyProof.Rows L2
section
variable {X : Cx} {o a e tg : Expr} {q p : DP} {c : DE} {g : D → D → Option D} {i : Nat} {js : List DP} {pos tpos : Pos} {op : Operator}
theorem oi_add : OpS X (inplaceOp .Add) (gI0 fun i j => i + j) := opS_I0 iop_add
noncomputable def sAugIx (g : D → D → Option D) (i : Nat) (js : List DP) (q p : DP) : DS := fun σ => (dget σ i).bind fun t => (evI js σ).bind fun path => (getP t path).bind fun n => match n with
 | .lst true xs => (q σ).bind fun kk => match kk with
  | .int k => (ixN xs.length k).bind fun j => (xs[j]?).bind fun x => match x.sc with
   | some _ => (p σ).bind fun y => (g x y).map fun z => .nx (σ.set i (some (setP t path (.lst true (xs.set j z)))))
   | none => none
  | _ => none
 | _ => none
theorem qs_augS (hop : OpS X (inplaceOp op) g) (ho : QP X o i js) (hq : QB X a q) (he : QB X e p)
  (ha : ∀ ov iv new, augStore a ov iv new = (do holding [new, ov, iv] (setItem ov iv new); release [new, ov, iv] []; pure .next) := by intros; rfl) : QS X (.AugAssign (.Subscript o a tpos) op e pos) (sAugIx g i js q p) [] :=
 PS_imp (ps_augS ho hq get_list he hop.run set_list ha) fun En σ H hq0 => by
  obtain ⟨F, R, σD, out, r, ec, kk⟩ := hq0
  unfold sAugIx at ec
  rcases h1 : dget σD i with _ | t
  ·rw [h1] at ec; cases ec
  ·rw [h1] at ec; simp only [bind_some] at ec
   rcases h2 : evI js σD with _ | path
   ·rw [h2] at ec; cases ec
   ·rw [h2] at ec; simp only [bind_some] at ec
    rcases h3 : getP t path with _ | n
    ·rw [h3] at ec; cases ec
    ·rw [h3] at ec; simp only [bind_some] at ec
     split at ec
     ·rename_i xs
      rcases h4 : q σD with _ | ky
      ·rw [h4] at ec; cases ec
      ·rw [h4] at ec; simp only [bind_some] at ec
       split at ec
       ·rename_i k
        rcases h5 : ixN xs.length k with _ | j
        ·rw [h5] at ec; cases ec
        ·rw [h5] at ec; simp only [bind_some] at ec
         rcases h6 : xs[j]? with _ | x
         ·rw [h6] at ec; cases ec
         ·rw [h6] at ec; simp only [bind_some] at ec
          rcases h7 : x.sc with _ | xw
          ·rw [h7] at ec; cases ec
          ·rw [h7] at ec; simp only at ec
           rcases h8 : p σD with _ | y
           ·rw [h8] at ec; cases ec
           ·rw [h8] at ec; simp only [bind_some] at ec
            rcases h9 : g x y with _ | z
            ·rw [h9] at ec; cases ec
            ·rw [h9] at ec; cases ec
             obtain ⟨zw, hzw⟩ := hop.sc _ _ _ h9
             obtain ⟨v0, hv0, r0⟩ := r.take (dget_some h1)
             obtain ⟨l0, vs0, lc0, hl0, hlen0, _⟩ := Rel.listAt (S := []) r0 h3
             refine ⟨F, R, σD, v0, path, .ref l0, r, hv0, h2, lc0, fun F1 H1 g1 => ?_⟩
             refine ⟨F1, R, σD, _, r.grow g1, h4, fun F2 H2 u g2 b2 => ?_⟩
             have g3 := g1.trans g2
             -- what stands there
             have look : ∀ F' H', Grow F H F' H' → ∃ vs, H' l0 = some (.lst vs) ∧ xs.length = vs.length ∧ vs[j]? = some xw ∧ ∀ (d : D) (w : V), d.sc = some w → Rel X.K F' (upd H' l0 (.lst (vs.set j w))) (σD.set i (some (setP t path (.lst true (xs.set j d))))) σ R ∧ Ext F' H' F' (upd H' l0 (.lst (vs.set j w))) := fun F' H' gr => by
              obtain ⟨v1, hv1, r1⟩ := (r.grow gr).take (dget_some h1)
              rw [hv0] at hv1; cases hv1
              obtain ⟨l, vs, lc, hl, hlen, _⟩ := Rel.listAt (S := []) r1 h3
              have el : l0 = l := by
               have := (lc0.grow gr.k).uniq lc
               injection this
              subst el
              refine ⟨vs, hl, hlen, ?_, fun d w hw => ?_⟩
              ·have hjl : j < vs.length := by rw [← hlen]; exact (List.getElem?_eq_some_iff.mp h6).1
               obtain ⟨L, ⟨L1, L2, o1, _⟩, _⟩ := r1.front.own
               obtain ⟨l', La, Lx, Lb, lc', _, ⟨vs', hl', ol'⟩, _⟩ := o1.focus h3
               have el : l0 = l' := by
                have := lc.uniq lc'
                injection this
               subst el
               rw [hl] at hl'; cases hl'
               obtain ⟨w2, e2, b2⟩ := ol'.get h6
               rw [e2, b2.sc h7]
              ·have r2 : Rel X.K F' H' (σD.set i none) σ ((t, v0) :: ([(d, w)] ++ R)) := (r1.scal (d := d) hw).perm (.swap _ _ _)
               obtain ⟨l2, vs2, lc2, hl2, hlen2, upd2⟩ := r2.listAt h3
               have el : l0 = l2 := by
                have := lc.uniq lc2
                injection this
               subst el
               rw [hl] at hl2; cases hl2
               have hj : j < xs.length := (ixN_seq h5).2.1
               obtain ⟨xo, wo, pm⟩ := zip_set (d := d) (v := w) hlen hj
               obtain ⟨r3, x3⟩ := upd2 (xs.set j d) (vs.set j w) [(xo, wo)] pm (by simp [hlen])
               have r4 := (Rel.put (R := (xo, wo) :: R) r3 hv0)
               rw [List.set_set] at r4
               exact ⟨r4.pop, x3⟩
             obtain ⟨vs, hl, hlen, hx, _⟩ := look F2 H2 g3
             refine ⟨l0, vs, k, xw, rfl, b2.int, .inl (.inl hl), by unfold atI; rw [← hlen, h5]; exact hx, ?_⟩
             refine ⟨F2, R, σD, y, r.grow g3, h8, fun F3 H3 uy g4 b4 => ?_⟩
             refine ⟨F3, x, y, z, zw, ⟨[], Ow.of_sc h7⟩, b4, h9, hzw, ?_⟩
             obtain ⟨vs3, hl3, hlen3, _, up3⟩ := look F3 H3 (g3.trans g4)
             obtain ⟨r5, x5⟩ := up3 z zw hzw
             refine ⟨l0, vs3, k, j, rfl, b2.int, hl3, by rw [← hlen3]; exact h5, ?_⟩
             exact kk F3 _ σ ((g3.trans g4).x.trans x5) Kp.refl r5
       ·cases ec
     ·cases ec
end
section
variable {X : Cx} {tg : Expr} {g : DG} {s : DS} {pos : Pos} {W W' : List Nat} {body : List Stmt}
end
end DD
namespace DD
open PySem PySem.Spec PyProof.Rows L2
noncomputable abbrev gAdd : D → D → Option D := gI0 fun i j => i + j
noncomputable abbrev gSub : D → D → Option D := gI0 fun i j => i - j
noncomputable abbrev gAnd : D → D → Option D := gI0 Builtin.bitAnd
noncomputable abbrev gOr : D → D → Option D := gI0 Builtin.bitOr
noncomputable abbrev gMod : D → D → Option D := gI (fun _ j => decide (0 < j)) fun i j => i % j
noncomputable def fdvC (_ j : Int) : Bool := decide (0 < j ∧ j.natAbs.log2 < 9000)
noncomputable abbrev gFdv : D → D → Option D := gI fdvC fun i j => i / j
theorem o_fdv {X : Cx} : OpS X (binaryOp .FloorDiv) gFdv := opS_I (C := fun _ j => 0 < j ∧ j.natAbs.log2 < 9000) (opI fun i j _ _ _ _ _ hc q => by
 have h1 : (0 : Int) < j := hc.1
 exact floordiv_int (by omega) (by rw [Int.fdiv_eq_ediv_of_nonneg i (by omega)]; exact q) (.inl (PyProof.noPylong_of_log2 hc.2))) fun i j h => by simpa [fdvC] using h
noncomputable abbrev gPow : D → D → Option D := gI (fun i j => decide (0 ≤ j ∧ j ≤ 1000000 ∧ i.natAbs < 2 ^ 64)) fun i j => i ^ j.toNat
noncomputable abbrev gShl : D → D → Option D := gI (fun i j => decide (0 ≤ j ∧ j ≤ 1000000 ∧ i.natAbs < 2 ^ 64)) fun i j => i * 2 ^ j.toNat
noncomputable abbrev gShr : D → D → Option D := gI (fun _ j => decide (0 ≤ j)) fun i j => i / 2 ^ j.toNat
noncomputable def mulC (i j : Int) : Bool := decide ((-(2 ^ 64) < i ∧ i < 2 ^ 64) ∨ (-(2 ^ 64) < j ∧ j < 2 ^ 64))
noncomputable abbrev gMul : D → D → Option D := gI mulC fun i j => i * j
theorem o_mul {X : Cx} : OpS X (binaryOp .Mult) gMul := opS_I op_mul fun i j h => by simpa [mulC, CMul] using h
noncomputable abbrev gLt : D → D → Option D := gB0 fun i j => decide (i < j)
noncomputable abbrev gGt : D → D → Option D := gB0 fun i j => decide (j < i)
noncomputable abbrev gGe : D → D → Option D := gB0 fun i j => decide (j ≤ i)
noncomputable def cyChk (N N' : List Str) (names : List (Str × NameKind)) (kd : Str → Option NameKind) : Bool :=
 decide ((names.map (·.1)).Nodup) && decide (N.length ≤ N'.length) && names.all (fun p => p.2 != .free || kd p.1 == some .cell || kd p.1 == some .free) &&
  (List.range N.length).all fun i => match N'[i]? with
   | none => true
   | some x => match names.lookup x with
    | none => true
    | some k => k == .free && N[i]? == some x
theorem cy_of {X : Cx} {N' : List Str} {scope : Scope} (hk : scope.kind = .function) (h : cyChk X.N N' scope.names X.env.kindOf = true) : CyOk X N' scope := by
 unfold cyChk at h
 simp only [Bool.and_eq_true, decide_eq_true_eq] at h
 obtain ⟨⟨⟨h1, h2⟩, h3⟩, h4⟩ := h
 have look : ∀ i x, i < X.N.length → N'[i]? = some x → (∃ k, (x, k) ∈ scope.names) → (x, NameKind.free) ∈ scope.names ∧ X.N[i]? = some x := fun i x hi e hq0 => by
  obtain ⟨k, hm⟩ := hq0
  have := List.all_eq_true.mp h4 i (List.mem_range.mpr hi)
  rw [e] at this
  simp only at this
  rw [lookup_mem h1 hm] at this
  simp only [Bool.and_eq_true, beq_iff_eq] at this
  obtain ⟨e1, e2⟩ := this
  subst e1
  exact ⟨hm, e2⟩
 refine ⟨hk, h1, h2, fun x hx => ?_, fun i x hi e hx => (look i x hi e ⟨_, hx⟩).2, fun i x hi e hx => (look i x hi e hx).1⟩
 have := List.all_eq_true.mp h3 _ hx
 simp at this
 exact this
end DD
namespace DD
open PySem PySem.Spec PyProof.Rows L2
section
variable {X : Cx} {es : List Expr} {ps : List DP} {pos : Pos}
theorem OwL.ofBor {K : PySem.W.Frag} {F : Addr → Prop} {H : Hp} : ∀ {ds : List D} {vs : List V}, BorL K F H ds vs → ∃ L, OwL K F H ds vs L
 | [], [], _ => ⟨[], by simp only [OwL]; exact ⟨trivial, trivial⟩⟩
 | d :: ds, v :: vs, ⟨⟨L1, o⟩, r⟩ => by
  obtain ⟨L2, ol⟩ := OwL.ofBor r
  exact ⟨L1 ++ L2, by simp only [OwL]; exact ⟨v, vs, L1, L2, rfl, o, ol, rfl⟩⟩
noncomputable def pLst (ps : List DP) : DP := fun σ => (evB ps σ).bind fun ds => if ds.length ≤ sizeLine then some (.lst true ds) else none
theorem qb_lst (h : QBA X es ps) : QB X (.List es pos) (pLst ps) := PE_imp (pe_lst h) fun σ H Q hq0 => by
 obtain ⟨F, R, σD, d, r, ec, k⟩ := hq0
 unfold pLst at ec
 rcases h1 : evB ps σD with _ | ds
 ·rw [h1] at ec; cases ec
 ·rw [h1] at ec; simp only [bind_some] at ec
  split at ec
  ·rename_i hz
   cases ec
   refine ⟨F, R, σD, ds, r, h1, fun F1 H1 vs g1 b1 => ?_⟩
   obtain ⟨L, ol⟩ := OwL.ofBor b1
   refine ⟨by rw [ol.length]; exact hz, fun p hp => ?_⟩
   have nF : ∀ c, F1 c → c ≠ p := fun c fc z => by
    obtain ⟨o, h⟩ := g1.dm r.g.dom c fc
    rw [z, hp] at h; cases h
   have gr : Grow F1 H1 F1 (upd H1 p (.lst vs)) := ⟨fun c fc => ⟨fc, upd_ne (nF c fc)⟩, fun c o e => by rw [upd_ne (ne_of_none e hp)]; exact e, fun c fc => .inl fc, fun dm c fc => by rw [upd_ne (nF c fc)]; exact dm c fc⟩
   refine k F1 _ _ (g1.trans gr) ⟨p :: L, ?_⟩
   simp only [Ow]
   exact ⟨p, vs, L, rfl, upd_same, ol.mono gr.x fun c hc => by
    obtain ⟨o, e⟩ := ol.dom c hc
    rw [upd_ne (ne_of_none e hp)], rfl⟩
  ·cases ec
end
end DD
namespace DD
open PySem PySem.Spec PyProof.Rows L2
theorem dS_some {p : DP} {σ σ' : DSt} {d : D} (h : dS p σ = some (d, σ')) : p σ = some d ∧ σ' = σ ∧ ∃ w, d.sc = some w := by
 unfold dS at h
 rcases hp : p σ with _ | x
 ·rw [hp] at h; cases h
 ·rw [hp] at h
  simp only [bind_some] at h
  rcases hs : x.sc with _ | w
  ·rw [hs] at h; cases h
  ·rw [hs] at h; cases h
   exact ⟨rfl, rfl, w, hs⟩
theorem qt_cmpB {X : Cx} {a b : Expr} {p q : DP} {pos : Pos} {op : CmpOp} {g : D → D → Option D} (o : OpS X (compareOp op) g) (ha : QB X a p) (hb : QB X b q) (hm : behindInMarks op b = false) : QT X (.Compare a [op] [b] pos) (dTest (dS (pOp g p q))) :=
 PT_imp (pt_cmpR o.run ha hb hm) fun σ H Q hq0 => by
  obtain ⟨F, R, σD, k, σD', r, ec, kk⟩ := hq0
  obtain ⟨e1, e2, w, hw⟩ := dS_some (dTest_some ec)
  subst e2
  show tOp _ _ _ σ H _
  exact rOpB o ⟨F, R, _, _, r, e1, fun F' H' v g' b' => ⟨k, b'.bl, kk F' H' g'.x (r.grow g')⟩⟩
end DD
namespace DD
open PySem PySem.Spec PyProof.Rows L2
section
variable {X : Cx} {e tg elt iter : Expr} {ifs : List Expr} {g : DG} {t : DT} {c : DE} {i : DI} {pos : Pos} {W : List Nat} {scope : Scope} {k : Nat}
theorem lc_e (N' : List Str) (hi : QI X tg iter i) (hg : ∀ cl s H fp pins, QG (cyOf X N' scope cl s H fp pins) tg g W) (ht : ∀ cl s H fp pins, QIf (cyOf X N' scope cl s H fp pins) ifs t)
  (he : ∀ cl s H fp pins, QE (cyOf X N' scope cl s H fp pins) elt c) (hk : N'.length - X.N.length = k := by rfl) (hw : (W.all fun i => decide (X.N.length ≤ i)) = true := by rfl) (hc : X.calm = true := by rfl) (hkd : scope.kind = .function := by rfl) (T : cyChk X.N N' scope.names X.env.kindOf = true := by rfl) (hs : ∀ x, foldedSetIterable iter X.env x = pure x := by intro _; rfl) :
  QE X (.ListComp elt [⟨tg, iter, ifs, 0⟩] scope pos) (dLc k i g t c) := by
 subst hk
 exact qe_lc hc (cy_of hkd T) hi hg ht he (fun j hj => by simpa using List.all_eq_true.mp hw j hj) hs
theorem lc_s (ix : Nat) (N' : List Str) {y : Str} {py spos : Pos} (hN : X.N.Nodup) (hi : QI X tg iter i) (hg : ∀ cl s H fp pins, QG (cyOf X N' scope cl s H fp pins) tg g W) (ht : ∀ cl s H fp pins, QIf (cyOf X N' scope cl s H fp pins) ifs t)
  (he : ∀ cl s H fp pins, QE (cyOf X N' scope cl s H fp pins) elt c) (hk : N'.length - X.N.length = k := by rfl) (hw : (W.all fun i => decide (X.N.length ≤ i)) = true := by rfl) (hc : X.calm = true := by rfl) (hkd : scope.kind = .function := by rfl) (T : cyChk X.N N' scope.names X.env.kindOf = true := by rfl)
  (hsw : swapsWith (.ListComp elt [⟨tg, iter, ifs, 0⟩] scope pos) (some (.Name y py)) spos.line X.env = pure true := by rfl)
  (hiN : X.N[ix]? = some y := by rfl) (hx : Loc X.env.scope y := by first | exact Or.inl rfl | exact Or.inr rfl) (hs : ∀ x, foldedSetIterable iter X.env x = pure x := by intro _; rfl) (hf : X.fn y = true ∨ X.env.scope.names.lookup y = some .local := by first | exact .inl rfl | exact .inr rfl | assumption) :
  QS X (.Assign [.Name y py] (.ListComp elt [⟨tg, iter, ifs, 0⟩] scope pos) spos) (sSet ix (dLc k i g t c)) [ix] := by
 subst hk
 exact qs_set_lc ix hN hc (cy_of hkd T) hi hg ht he (fun j hj => by simpa using List.all_eq_true.mp hw j hj) hsw hiN hx hs hf
end
end DD
namespace DD
open PySem PySem.Spec PyProof.Rows L2
noncomputable def give (x : Nat) (σ : DSt) : D × DSt := match dget σ x with
 | some d => (match d.sc with | some _ => (d, σ) | none => (d, σ.set x none))
 | none => (.hole, σ)
noncomputable def Out.upd (f : DSt → DSt) : Out → Out
 | .nx σ => .nx (f σ)
 | .bk σ => .bk (f σ)
 | .ct σ => .ct (f σ)
 | .rt d σ => .rt d (f σ)
section
variable {K : PySem.W.Frag} {F F' : Addr → Prop} {H H' : Hp}
theorem give_ok {σD : DSt} {σ : St} {R : Ro} {x : Nat} {y : V} (r : Rel K F H σD σ R) (hy : σ[x]? = some (some y)) : Rel K F H (give x σD).2 σ (((give x σD).1, y) :: R) := by
 unfold give
 rcases h : dget σD x with _ | d
 ·exact r.push (by simp only [Ow])
 ·simp only
  obtain ⟨v, hv, r1⟩ := r.take (dget_some h)
  rw [hy] at hv; cases hv
  rcases hs : d.sc with _ | w
  ·exact r1
  ·have e : y = w := (r1.bor (by simp)).sc hs
   subst e
   exact r.scal hs
end
section
variable {X : Cx} {s : DS} {pos : Pos} {W' : List Nat} {body : List Stmt}
theorem Kp.at {W : List Nat} {σ σ' : St} (h : Kp W σ σ') {i : Nat} (hi : (W.contains i) = false) : σ'[i]? = σ[i]? := h i (by simpa using hi)
end
end DD
namespace DD
open PySem PySem.Spec PyProof.Rows L2
noncomputable def bComp (x : Nat) (t : DT) (c : DE) : List D → DSt → Option (List D × List D × DSt)
 | [], σ => some ([], [], σ)
 | d :: ds, σ => (t (σ.set x (some d))).bind fun p => if p.1 = true then
   (c p.2).bind fun q => (bComp x t c ds (give x q.2).2).map fun r => (q.1 :: r.1, (give x q.2).1 :: r.2.1, r.2.2)
  else (bComp x t c ds (give x p.2).2).map fun r => (r.1, (give x p.2).1 :: r.2.1, r.2.2)
noncomputable def dLcB (i x : Nat) (t : DT) (c : DE) : DE := fun σ => match dget σ i with
 | some (.lst true xs) => if xs.length ≤ sizeLine then (bComp x t c xs (σ.set i none ++ [none])).map fun r => (.lst true r.1, (r.2.2.take σ.length).set i (some (.lst true r.2.1))) else none
 | _ => none
section
variable {X : Cx} {elt : Expr} {ifs : List Expr} {t : DT} {c : DE} {pos : Pos} {scope : Scope}
theorem lcB_go {F : Addr → Prop} {H : Hp} {R : Ro} {σD σE : DSt} {σ : St} {xs ys items : List D} {a : Addr} {vs : List V} {x : Nat} {Q : VK} (hx : x = σ.length) (hlen : xs.length = vs.length)
  (r : Rel X.K F H σD σ ((.node a vs, .ref a) :: (xs.zip vs ++ R))) (hz : xs.length ≤ sizeLine)
  (h : bComp x t c xs (σD ++ [none]) = some (ys, items, σE)) (kk : ∀ F' H' v, Ext F H F' H' → Rel X.K F' H' (σE.take σD.length) σ ((.lst true items, .ref a) :: (.lst true ys, v) :: R) → Q v H') (p : Addr) (hp : H p = none) :
  ∃ W1 : Nat → Nat → St → Hp → Prop, (∃ m, W1 0 m (σ ++ [none]) (upd H p (.lst []))) ∧ ∀ i m σ' H', W1 i m σ' H' →
   ((Itl X.K a).stop i H' ∧ Q (.ref p) H') ∨ ((Itl X.K a).go i H' ∧ ∀ y H2, (Itl X.K a).yld i H' y H2 → gName x y σ' H2 fun σ2 H3 => rT X.K t σ2 H3 fun ok H4 => if ok = true then
    rE X.K c σ2 H4 fun y H5 => ∃ ys, H5 p = some (.lst ys) ∧ ys.length < sizeLine ∧ ∃ m', m' < m ∧ W1 (i + 1) m' σ2 (upd H5 p (.lst (ys ++ [y])))
    else ∃ m', m' < m ∧ W1 (i + 1) m' σ2 H4) := by
 have hml := r.mt.length
 obtain ⟨r0, x0⟩ := (r.ext0 (k := 1)).alloc (o := .lst []) hp
 have r1 : Rel X.K F (upd H p (.lst [])) (σD ++ [none]) (σ ++ [none]) ((.lst true [], .ref p) :: ((.node a vs, .ref a) :: (xs.zip vs ++ R))) := r0.formL (xs := []) (vs := []) rfl upd_same
 refine ⟨fun n m σ1 H1 => m = xs.length - n ∧ n ≤ xs.length ∧ ∃ F1 σD1 acc dn zs ws, Ext F H F1 H1 ∧ Kp [x] (σ ++ [none]) σ1 ∧ x < σ1.length ∧
   Rel X.K F1 H1 σD1 σ1 ((.lst true acc, .ref p) :: ((.node a vs, .ref a) :: (dn.zip (vs.take n) ++ ((xs.drop n).zip (vs.drop n) ++ R)))) ∧ acc.length ≤ n ∧ dn.length = n ∧
   bComp x t c (xs.drop n) σD1 = some (zs, ws, σE) ∧ acc ++ zs = ys ∧ dn ++ ws = items,
  ⟨_, rfl, Nat.zero_le _, F, _, [], [], ys, items, x0, Kp.refl, by simp [hx], by simpa using r1, Nat.zero_le _, rfl, by simpa using h, rfl, rfl⟩, ?_⟩
 rintro n m σ1 H1 ⟨rfl, hle, F1, σD1, acc, dn, zs, ws, x1, kp1, hx1, r2, hacc, hdn, h1, hys, hit⟩
 rcases Nat.lt_or_ge n xs.length with hn | hn
 ·right
  have hnl : n < vs.length := by rw [← hlen]; exact hn
  have ha1 : H1 a = some (.lst vs) := r2.nodeAt (by simp)
  refine ⟨⟨vs, vs[n], .inl (.inl ha1), List.getElem?_eq_getElem hnl⟩, fun y H2 ⟨e2, hy⟩ => ?_⟩
  subst e2
  have ey : vs[n] = y := by have := hy vs (.inl (.inl ha1)); rw [List.getElem?_eq_getElem hnl] at this; exact Option.some.inj this
  rw [List.drop_eq_getElem_cons hn, List.drop_eq_getElem_cons hnl, ey] at r2
  rw [List.drop_eq_getElem_cons hn] at h1
  have r3 : Rel X.K F1 H2 σD1 σ1 ((xs[n], y) :: ((.lst true acc, .ref p) :: ((.node a vs, .ref a) :: (dn.zip (vs.take n) ++ ((xs.drop (n + 1)).zip (vs.drop (n + 1)) ++ R))))) := r2.perm (by
   have p1 : ((D.lst true acc, V.ref p) :: ((D.node a vs, V.ref a) :: (dn.zip (vs.take n) ++ ((xs[n] :: xs.drop (n + 1)).zip (y :: vs.drop (n + 1)) ++ R)))).Perm ((D.lst true acc, V.ref p) :: ((D.node a vs, V.ref a) :: ((xs[n], y) :: (dn.zip (vs.take n) ++ ((xs.drop (n + 1)).zip (vs.drop (n + 1)) ++ R))))) := .cons _ (.cons _ List.perm_middle)
   exact p1.trans ((List.Perm.cons _ (.swap _ _ _)).trans (.swap _ _ _)))
  have r4 := r3.store (i := x) hx1
  have hy2 : (σ1.set x (some y))[x]? = some (some y) := by simp [hx1]
  have kp2 : Kp [x] (σ ++ [none]) (σ1.set x (some y)) := kp1.trans Kp.set
  have tk : vs.take (n + 1) = vs.take n ++ [y] := by rw [List.take_succ, List.getElem?_eq_getElem hnl, ey]; rfl
  have zt : ∀ d : D, (dn ++ [d]).zip (vs.take (n + 1)) = dn.zip (vs.take n) ++ [(d, y)] := fun d => by
   rw [tk, List.zip_append (by simp [hdn]; omega)]; rfl
  simp only [bComp] at h1
  rcases e2 : t (σD1.set x (some xs[n])) with _ | ⟨ok, σ5⟩
  ·rw [e2] at h1; cases h1
  ·rw [e2] at h1; simp only [bind_some] at h1
   refine ⟨F1, _, _, ok, σ5, r4, e2, fun F4 H4 x4 r5 => ?_⟩
   cases ok with
   | false =>
    simp only [Bool.false_eq_true, if_false] at h1 ⊢
    rcases e3 : bComp x t c (xs.drop (n + 1)) (give x σ5).2 with _ | ⟨zs', ws', σE'⟩
    ·rw [e3] at h1; cases h1
    ·rw [e3] at h1; cases h1
     refine ⟨xs.length - (n + 1), by omega, rfl, hn, F4, _, acc, dn ++ [(give x σ5).1], _, ws', x1.trans x4, kp2, by simpa using hx1, ?_, by omega, by simp [hdn], e3, hys, by rw [← hit]; simp⟩
     have r6 := give_ok r5 hy2
     rw [zt]
     refine r6.perm ?_
     have p1 : (((give x σ5).1, y) :: ((D.lst true acc, V.ref p) :: ((D.node a vs, V.ref a) :: (dn.zip (vs.take n) ++ ((xs.drop (n + 1)).zip (vs.drop (n + 1)) ++ R))))).Perm ((D.lst true acc, V.ref p) :: ((D.node a vs, V.ref a) :: (((give x σ5).1, y) :: (dn.zip (vs.take n) ++ ((xs.drop (n + 1)).zip (vs.drop (n + 1)) ++ R))))) := (List.Perm.swap _ _ _).trans (.cons _ (.swap _ _ _))
     refine p1.trans (.cons _ (.cons _ ?_))
     rw [List.append_assoc]
     exact List.perm_middle.symm
   | true =>
    simp only [if_true] at h1 ⊢
    rcases e3 : c σ5 with _ | ⟨d, σ6⟩
    ·rw [e3] at h1; cases h1
    ·rw [e3] at h1; simp only [bind_some] at h1
     rcases e4 : bComp x t c (xs.drop (n + 1)) (give x σ6).2 with _ | ⟨zs', ws', σE'⟩
     ·rw [e4] at h1; cases h1
     ·rw [e4] at h1; cases h1
      refine ⟨F4, _, σ5, d, σ6, r5, e3, fun F5 H5 v x5 r6 => ?_⟩
      have r7 := give_ok r6 hy2
      have r8 : Rel X.K F5 H5 (give x σ6).2 (σ1.set x (some y)) ((.lst true acc, .ref p) :: ((d, v) :: ((.node a vs, .ref a) :: ((dn ++ [(give x σ6).1]).zip (vs.take (n + 1)) ++ ((xs.drop (n + 1)).zip (vs.drop (n + 1)) ++ R))))) := by
       rw [zt]
       refine r7.perm ?_
       have p1 : (((give x σ6).1, y) :: ((d, v) :: ((D.lst true acc, V.ref p) :: ((D.node a vs, V.ref a) :: (dn.zip (vs.take n) ++ ((xs.drop (n + 1)).zip (vs.drop (n + 1)) ++ R)))))).Perm ((D.lst true acc, V.ref p) :: ((d, v) :: ((D.node a vs, V.ref a) :: (((give x σ6).1, y) :: (dn.zip (vs.take n) ++ ((xs.drop (n + 1)).zip (vs.drop (n + 1)) ++ R)))))) := by
        refine (List.Perm.cons _ (.swap _ _ _)).trans ?_
        refine (List.Perm.swap _ _ _).trans (.cons _ ?_)
        exact (List.Perm.swap _ _ _).trans (.cons _ (.swap _ _ _))
       refine p1.trans (.cons _ (.cons _ (.cons _ ?_)))
       rw [List.append_assoc]
       exact List.perm_middle.symm
      obtain ⟨a', us, ea, he, hl, r9⟩ := r8.openL
      cases ea
      refine ⟨us, he, by omega, xs.length - (n + 1), by omega, rfl, hn, ?_⟩
      have r10 : Rel X.K F5 H5 (give x σ6).2 (σ1.set x (some y)) ((.cell, .ref p) :: ((acc ++ [d]).zip (us ++ [v]) ++ ((.node a vs, .ref a) :: ((dn ++ [(give x σ6).1]).zip (vs.take (n + 1)) ++ ((xs.drop (n + 1)).zip (vs.drop (n + 1)) ++ R))))) := by
       refine r9.perm (.cons _ ?_)
       rw [List.zip_append hl]
       simp
      obtain ⟨r11, x11⟩ := r10.write (o := .lst (us ++ [v]))
      exact ⟨F5, _, acc ++ [d], dn ++ [(give x σ6).1], zs', ws', ((x1.trans x4).trans x5).trans x11, kp2, by simpa using hx1, r11.formL (by simp [hl]) upd_same, by simp; omega, by simp [hdn], e4, by rw [← hys]; simp, by rw [← hit]; simp⟩
 ·left
  have ei : n = xs.length := Nat.le_antisymm hle hn
  subst ei
  rw [List.drop_length] at h1 r2
  simp only [bComp] at h1
  cases h1
  rw [List.append_nil] at hys hit
  subst hys
  subst hit
  have ha1 : H1 a = some (.lst vs) := r2.nodeAt (by simp)
  refine ⟨⟨vs, .inl (.inl ha1), by rw [hlen]; exact Nat.le_refl _⟩, kk F1 H1 _ x1 ?_⟩
  have et : vs.take xs.length = vs := by rw [hlen, List.take_length]
  rw [et] at r2
  have r3 : Rel X.K F1 H1 σE σ1 ((.node a vs, .ref a) :: (dn.zip vs ++ ((.lst true acc, .ref p) :: R))) := r2.perm (by
   have p0 : dn.zip vs ++ (([] : List D).zip (vs.drop xs.length) ++ R) = dn.zip vs ++ R := by simp
   rw [p0]
   exact (List.Perm.swap _ _ _).trans (.cons _ List.perm_middle.symm))
  have r4 := r3.formN (by rw [hdn, hlen])
  rw [hml]
  refine r4.cut rfl ?_
  apply List.ext_getElem?
  intro q
  rcases Nat.lt_or_ge q σ.length with hq | hq
  ·rw [List.getElem?_take_of_lt hq, kp1 q (by simp; omega), List.getElem?_append_left hq]
  ·rw [List.getElem?_eq_none (by simp; omega), List.getElem?_eq_none hq]
end
end DD
namespace DD
open PySem PySem.Spec PyProof.Rows L2
theorem law_sp {K : PySem.W.Frag} {H : Hp} {a : Addr} {ns : List Int} {g : GF} {E : XK} (hg : ∃ d, g [.lst false (ns.map D.int)] = some (.bl true, [d])) (hS : SqL K H a (ns.map V.int)) : spD K 1 g [.ref a] H (fun v _ => v = .bl true) E := by
 obtain ⟨d, hd⟩ := hg
 refine ⟨rfl, fun c => ∃ o, H c = some o, [], [.lst false (ns.map D.int)], .bl true, [d], rfl, ⟨⟨[], ?_, List.nodup_nil, fun c hc => by cases hc⟩, fun c hc => hc⟩, hd, fun F' H' v x _ g => ?_⟩
 ·have ol : ∀ ms : List Int, OwL K (fun c => ∃ o, H c = some o) H (ms.map D.int) (ms.map V.int) [] := by
   intro ms
   induction ms with
   | nil => simp only [List.map_nil, OwL]; exact ⟨trivial, trivial⟩
   | cons m ms ih => simp only [List.map_cons, OwL]; exact ⟨_, _, [], [], rfl, Ow.of_sc rfl, ih, rfl⟩
  refine ⟨[], [], ?_, rfl, rfl⟩
  simp only [Ow]
  refine ⟨a, ns.map V.int, rfl, ?_, ol ns, trivial⟩
  rcases hS with h | h
  ·refine .inl ⟨?_, h⟩
   rcases h with h | ⟨o, h⟩ <;> exact ⟨_, h⟩
  ·exact .inr fun H' => .inr h
 ·exact (g.bor (d := .bl true) (v := v) (by simp)).bl
end DD
namespace DD
open PySem PySem.Spec PyProof.Rows L2
inductive PArg where
 | bo (i : Nat) | pu (p : DP) | bp (i : Nat) (q : DP)
noncomputable def fillP : List PArg → DSt → DSt → Option (List D × DSt)
 | [], _, σ => some ([], σ)
 | .bo i :: as, σ0, σ => (dget σ i).bind fun d => match d.sc with
  | some _ => (fillP as σ0 σ).map fun p => (d :: p.1, p.2)
  | none => (fillP as σ0 (σ.set i none)).map fun p => (d :: p.1, p.2)
 | .pu p :: as, σ0, σ => (p σ0).bind fun d => match d.sc with
  | some _ => (fillP as σ0 σ).map fun p => (d :: p.1, p.2)
  | none => none
 | .bp i q :: as, σ0, σ => (dget σ i).bind fun t => (q σ0).bind fun jd => match jd with
  | .int j => match getP t [j] with
   | some (.lst true xs) => (fillP as σ0 (σ.set i none)).map fun p => (.lst true xs :: p.1, p.2)
   | _ => none
  | _ => none
noncomputable def putQ (σ : DSt) (i : Nat) (t jd d : D) : DSt := match jd with | .int j => σ.set i (some (setP t [j] d)) | _ => σ
noncomputable def backP : List PArg → List D → DSt → DSt → DSt
 | .bo i :: as, d :: ds, σ0, σ => match d.sc with
  | some _ => backP as ds σ0 σ
  | none => backP as ds σ0 (σ.set i (some d))
 | .pu _ :: as, _ :: ds, σ0, σ => backP as ds σ0 σ
 | .bp i q :: as, d :: ds, σ0, σ => match dget σ0 i with
  | some t => match q σ0 with
   | some jd => backP as ds σ0 (putQ σ i t jd d)
   | none => backP as ds σ0 σ
  | none => backP as ds σ0 σ
 | _, _, _, σ => σ
noncomputable def OkP (H : Hp) (σ : St) (σ0 : DSt) : List PArg → List V → Prop
 | .bo i :: as, v :: vs => σ[i]? = some (some v) ∧ OkP H σ σ0 as vs
 | .pu p :: as, v :: vs => (∀ d, p σ0 = some d → ∀ w, d.sc = some w → v = w) ∧ OkP H σ σ0 as vs
 | .bp i q :: as, v :: vs => (∃ v0, σ[i]? = some (some v0) ∧ ∀ j t xs, q σ0 = some (.int j) → dget σ0 i = some t → getP t [j] = some (.lst true xs) → Lc H v0 [j] v) ∧ OkP H σ σ0 as vs
 | [], [] => True
 | _, _ => False
theorem OkP.grow {H H' : Hp} {σ : St} {σ0 : DSt} (k : ∀ a o, H a = some o → H' a = some o) : ∀ {as : List PArg} {vs : List V}, OkP H σ σ0 as vs → OkP H' σ σ0 as vs
 | .bo i :: as, v :: vs, h => ⟨h.1, OkP.grow k (as := as) (vs := vs) h.2⟩
 | .pu p :: as, v :: vs, h => ⟨h.1, OkP.grow k (as := as) (vs := vs) h.2⟩
 | .bp i q :: as, v :: vs, h => by
  obtain ⟨⟨v0, h1, h2⟩, h3⟩ := h
  exact ⟨⟨v0, h1, fun j t xs e1 e2 e3 => (h2 j t xs e1 e2 e3).grow k⟩, OkP.grow k (as := as) (vs := vs) h3⟩
 | [], [], h => h
section
variable {X : Cx} {e a b : Expr} {es : List Expr} {as : List PArg} {c : DE} {p q : DP} {pos : Pos}
variable {K : PySem.W.Frag} {F F' : Addr → Prop} {H H' : Hp}
theorem map_some_pair {α β : Type} {o : Option α} {f : α → β} {b : β} (h : o.map f = some b) : ∃ x, o = some x ∧ f x = b := by
 cases o with
 | none => cases h
 | some x => exact ⟨x, rfl, Option.some.inj h⟩
theorem OkP.length {σ0 : DSt} {σ : St} : ∀ {as : List PArg} {vs : List V}, OkP H σ σ0 as vs → vs.length = as.length
 | [], [], _ => rfl
 | .bo _ :: as, _ :: vs, h => by simp [OkP.length (as := as) (vs := vs) h.2]
 | .pu _ :: as, _ :: vs, h => by simp [OkP.length (as := as) (vs := vs) h.2]
 | .bp _ _ :: as, _ :: vs, h => by simp [OkP.length (as := as) (vs := vs) h.2]
end
end DD
namespace DD
open PySem PySem.Spec PyProof.Rows L2
section
variable {X : Cx} {e o a b : Expr} {es : List Expr} {p q : DP} {c c' : DE} {pos apos cpos : Pos} {i : Nat} {js : List DP}
noncomputable def dExtV (i : Nat) (c : DE) : DE := fun σ => match dget σ i with
 | some (.lst _ _) => (c σ).bind fun p => match p.1, dget p.2 i with
  | .lst true ys, some (.lst true xs) => if xs.length + ys.length ≤ sizeLine then some (.non, p.2.set i (some (.lst true (xs ++ ys)))) else none
  | _, _ => none
 | _ => none
theorem qe_extV (i : Nat) {x : Str} {npos : Pos} (he : QE X e c) (hN : X.N[i]? = some x := by rfl) (hv : Vis X.env.scope x := by first | exact Or.inl rfl | exact Or.inr (Or.inl rfl) | exact Or.inr (Or.inr rfl)) (hd : (x == ("__debug__" : Str)) = false := by decide)
  (hcd : (x == ("__classdict__" : Str)) = false := by decide) (hbase : attributeBase (.Name x npos) "extend" X.env (eval (.Name x npos) X.env) = eval (.Name x npos) X.env := by rfl) (hfew : ((backTo cpos (starEach [e] X.env)).all (fun x => !x.1) && (backToKw cpos (keywordEach [] X.env)).all (fun x => x.1.isSome)
   && decide (([e] : List Expr).length + ([] : List Keyword).length + (if ([] : List Keyword).isEmpty then 0 else 1) < 30)) = true := by rfl) (hline : (apos.endLine == cpos.line) = true := by rfl)
  (hst : starEach [e] X.env = (false, eval e X.env) :: starEach [] X.env := by rfl) : QE X (.Call (.Attribute (.Name x npos) "extend" apos) [e] [] cpos) (dExtV i c) :=
 PE_imp (pe_bm PySem.F.plainAttrs_list PySem.F.slot_list_extend PySem.F.type_list_extend mt_extend (pe_var hN hv hd hcd) (pa_cons he pa_nil hst) hbase hfew hline hst rfl) fun σ H Q hq0 => by
  obtain ⟨F, R, σD, d, σD', r, ec, k⟩ := hq0
  unfold dExtV at ec
  split at ec
  ·rename_i own ys0 h0
   obtain ⟨v0, hv0, b0⟩ := r.get (dget_some h0)
   obtain ⟨a0, vs0, rfl, sq0, _⟩ := b0.lst
   rcases h1 : c σD with _ | ⟨y, σ1⟩
   ·rw [h1] at ec; cases ec
   ·rw [h1] at ec; simp only [bind_some] at ec
    split at ec
    ·rename_i _ _ ys xs h2
     split at ec
     ·rename_i hz
      cases ec
      refine ⟨_, hv0, .inl ⟨rfl, vs0, sq0⟩, F, R, σD, _, σ1, r, h1, fun F1 H1 v x1 r1 => ?_⟩
      obtain ⟨b, zs, rfl, hb, hlb, r1'⟩ := r1.openN
      obtain ⟨v1, hv1, r2⟩ := r1'.take (dget_some h2)
      rw [hv0] at hv1; cases hv1
      have r2' : Rel X.K F1 H1 (σ1.set i none) σ ((.lst true xs, .ref a0) :: (ys.zip zs ++ R)) := by
       have := (r2.perm (.swap _ _ _)).pop
       exact this
      obtain ⟨l, vs, lc, hl, hlen, upd'⟩ := Rel.listAt (S := ys.zip zs) (js := []) (xs := xs) r2' rfl
      cases lc
      obtain ⟨r3, x3⟩ := upd' (xs ++ ys) (vs ++ zs) [] (by rw [List.zip_append hlen]; simp) (by simp [hlen, hlb])
      refine ⟨_, b, vs, zs, rfl, rfl, hl, hb, by omega, ?_⟩
      have r4 := (Rel.put (R := R) r3 hv0)
      rw [List.set_set] at r4
      exact k F1 _ .non (x1.trans x3) (r4.scal rfl)
     ·cases ec
    ·cases ec
  ·cases ec
end
end DD
namespace DD
open PySem PySem.Spec PyProof.Rows L2
section
variable {X : Cx} {e o a b : Expr} {es : List Expr} {p q : DP} {c c' : DE} {pos apos cpos : Pos} {i : Nat} {js : List DP}
noncomputable def blsOf : List D → Option (List Bool)
 | [] => some []
 | .bl b :: xs => (blsOf xs).map fun r => b :: r
 | _ => none
theorem blsOf_map : ∀ {xs : List D} {bs : List Bool}, blsOf xs = some bs → xs = bs.map D.bl
 | [], _, h => by cases h; rfl
 | x :: xs, bs, h => by
  cases x <;> simp only [blsOf] at h <;> first | cases h | skip
  obtain ⟨r, h1, e⟩ := map_some_pair h
  subst e
  rw [blsOf_map h1]; rfl
theorem OwL.bls {K : PySem.W.Frag} {F : Addr → Prop} {H : Hp} : ∀ {bs : List Bool} {vs : List V} {L : List Addr}, OwL K F H (bs.map D.bl) vs L → vs = bs.map V.bl
 | [], _, _, h => by simp only [List.map_nil, OwL] at h; exact h.1
 | b :: bs, _, _, h => by
  simp only [List.map_cons, OwL] at h
  obtain ⟨v, ws, L1, L2, rfl, h1, h2, rfl⟩ := h
  rw [h2.bls, (h1.sc (d := .bl b) rfl).1]; rfl
theorem vals_bl : ∀ {bs : List Bool} {us : List Value}, Vals (bs.map V.bl) us → us = bs.map Value.bool
 | [], _, .nil => rfl
 | b :: bs, _, .cons h t => by rw [show _ = Value.bool b from h, vals_bl t]; rfl
noncomputable def allD : List D → Option D
 | [.lst _ xs] => (blsOf xs).map fun bs => .bl (bs.all id)
 | _ => none
theorem c_all (hc : X.calm = true) : CallS X (.builtin "all") allD := by
 refine ⟨fun pins s σ H vs us Q I rv ⟨F, ds, d, w, b, eg, hw, q⟩ => ?_, fun ds d h => ?_⟩
 ·unfold allD at eg
  split at eg
  ·rename_i own xs
   obtain ⟨bs, hbs, e⟩ := map_some_pair eg
   subst e; cases hw
   have ex := blsOf_map hbs
   subst ex
   obtain ⟨v, rfl, bv⟩ := b.one
   obtain ⟨a, ws, rfl, sq, L, ol⟩ := bv.lst
   obtain ⟨u, rfl, ru⟩ := vals1 rv
   cases ru
   obtain ⟨its, r, pl, _⟩ := I.list sq
   rw [ol.bls] at r
   have hits := vals_bl r
   subst hits
   have hl := pl.isList
   have hlt : a < s.heap.objs.size := by obtain ⟨_, e, _⟩ := hl; exact Heap.lt_size e
   refine call_all_walk (wpAny_pyIter_list hl ⟨_, _, _, _, _, _, fun i => bs.getD i true, rfl, Walks.list (A := X.A.in1) (I.ok.hd hc) _ a (Nat.ne_of_lt hlt) (bs.map Value.bool).toArray, ⟨⟨_, Heap.get?_push_size _ rfl, rfl, rfl⟩, hl.push _⟩, ?_, fun h' tk hk => ?_⟩)
   ·intro i v s2 Q2 E2 hP hQ
    have : v = .bool (bs.getD i true) := by
     simp only [List.getElem?_toArray, List.getElem?_map, Option.map_eq_some_iff] at hP
     obtain ⟨b', hb, rfl⟩ := hP
     simp [hb]
    subst this
    exact wpAny_truthy_bool hQ
   ·refine ⟨.bl (bs.all id), H, I.kept (old_kept hk), ?_, q⟩
    have e : (List.range (bs.map Value.bool).toArray.size).all (fun i => bs.getD i true) = bs.all id := by
     rw [Bool.eq_iff_iff, List.all_eq_true, List.all_eq_true]
     constructor
     ·intro h x hx
      obtain ⟨i, hi, rfl⟩ := List.getElem_of_mem hx
      have := h i (by simp [hi])
      simpa [hi] using this
     ·intro h i hi
      have hi' : i < bs.length := by simpa using hi
      have := h bs[i] (List.getElem_mem hi')
      simpa [hi'] using this
    rw [e]; rfl
  ·cases eg
 ·unfold allD at h
  split at h
  ·obtain ⟨bs, _, e⟩ := map_some_pair h
   subst e; exact ⟨_, rfl⟩
  ·cases h
theorem Rel.scs {K : PySem.W.Frag} {F : Addr → Prop} {H : Hp} {σD : DSt} {σ : St} {R : Ro} : ∀ {xs : List D} {vs : List V} {L : List Addr}, allSc xs = true → OwL K F H xs vs L → Rel K F H σD σ R → Rel K F H σD σ (xs.zip vs ++ R)
 | [], _, _, _, _, r => by simpa using r
 | x :: xs, _, _, h, o, r => by
  simp only [OwL] at o
  obtain ⟨v, ws, L1, L2, rfl, h1, h2, rfl⟩ := o
  unfold allSc at h
  rw [List.all_cons, Bool.and_eq_true, Option.isSome_iff_exists] at h
  obtain ⟨⟨w, hw⟩, ht⟩ := h
  have r2 := Rel.scs (xs := xs) ht h2 r
  have hv := (h1.sc hw).1
  subst hv
  exact r2.scal hw
noncomputable def dListB (p : DP) : DE := fun σ => (p σ).bind fun d => match d with
 | .lst _ xs => if allSc xs = true then some (.lst true xs, σ) else none
 | _ => none
theorem call_list1 : CallR X (.type "list") (fun vs H Q => ∃ a xs, vs = [.ref a] ∧ SqL X.K H a xs ∧ ∀ p, H p = none → Q (.ref p) (upd H p (.lst xs))) := by
 rintro pins s σ H vs us Q I rv ⟨a, xs, e, sq, q⟩
 subst e
 obtain ⟨u, rfl, ru⟩ := vals1 rv
 cases ru
 obtain ⟨its, r, ⟨o, n, hg, hc, hsl, hd⟩, hz⟩ := I.list sq
 refine call_list_seq a (.inl rfl) hg hc hd (fun h' c' hk hn => ?_) (by rw [List.size_toArray, ← r.length]; exact hz)
 exact ⟨.ref s.heap.objs.size, _, I.laid (o := .lst xs) hk (Nat.le_refl _) ⟨hz, its, c', r, hn⟩, rfl, q _ I.fresh⟩
theorem qe_listB {x : Str} {p1 pos : Pos} (hg : Gl X x) (hm : X.mg x = none) (hv : bootBuiltins x = some (.type "list")) (ha : QB X e p) (hn : x ≠ "__name__" := by decide) (hdb : (x == ("__debug__" : Str)) = false := by decide)
  (he : starEach [e] X.env = (false, eval e X.env) :: starEach [] X.env := by rfl) (hpl : (backTo pos (starEach [] X.env)).any (·.1) = false := by rfl) : QE X (.Call (.Name x p1) [e] [] pos) (dListB p) :=
 PE_imp (pe_callTy call_list1 hg hm hv (pa_cons ha pa_nil he) hn hdb he hpl) fun σ H Q hq0 => by
  obtain ⟨F, R, σD, d, σD', r, ec, k⟩ := hq0
  unfold dListB at ec
  rcases h1 : p σD with _ | x
  ·rw [h1] at ec; cases ec
  ·rw [h1] at ec; simp only [bind_some] at ec
   split at ec
   ·rename_i o xs
    split at ec
    ·rename_i hs
     cases ec
     refine ⟨F, R, σD, _, r, h1, fun F1 H1 v g1 b1 => ?_⟩
     obtain ⟨a, ws, rfl, sq, L, ol⟩ := b1.lst
     refine ⟨a, ws, rfl, sq, fun p hp => ?_⟩
     have r2 := Rel.scs hs ol (r.grow g1)
     obtain ⟨r3, x3⟩ := r2.layL ol.toP.1 hp
     exact k F1 _ _ (g1.x.trans x3) r3
    ·cases ec
   ·cases ec
end
end DD
namespace DD
open PySem PySem.Spec PySem.Calls PyProof.Rows L2 PySem.W PySem.Builtin PySem.Builtin.Str
theorem Rel.dropA {K : PySem.W.Frag} {F : Addr → Prop} {H : Hp} {σD : DSt} {σ : St} {R : Ro} : ∀ {S : Ro}, Rel K F H σD σ (S ++ R) → Rel K F H σD σ R
 | [], r => r
 | _ :: S, r => Rel.dropA (S := S) (Rel.pop (R := S ++ R) r)
noncomputable def dClrV (i : Nat) : DE := fun σ => match dget σ i with
 | some (.lst true _) => some (.non, σ.set i (some (.lst true [])))
 | _ => none
section
variable {X : Cx} {apos cpos : Pos}
theorem qe_clrV (i : Nat) {x : Str} {npos : Pos} (hN : X.N[i]? = some x := by rfl) (hv : Vis X.env.scope x := by first | exact Or.inl rfl | exact Or.inr (Or.inl rfl) | exact Or.inr (Or.inr rfl)) (hd : (x == ("__debug__" : Str)) = false := by decide)
  (hcd : (x == ("__classdict__" : Str)) = false := by decide) (hbase : attributeBase (.Name x npos) "clear" X.env (eval (.Name x npos) X.env) = eval (.Name x npos) X.env := by rfl) (hline : (apos.endLine == cpos.line) = true := by rfl) :
  QE X (.Call (.Attribute (.Name x npos) "clear" apos) [] [] cpos) (dClrV i) :=
 PE_imp (pe_bm0 PySem.F.plainAttrs_list PySem.F.slot_list_clear PySem.F.type_list_clear mt_clear (pe_var hN hv hd hcd) hbase hline) fun σ H Q hq0 => by
  obtain ⟨F, R, σD, d, σD', r, ec, k⟩ := hq0
  unfold dClrV at ec
  split at ec
  ·rename_i xs h2
   cases ec
   obtain ⟨v0, hv0, r2⟩ := r.take (dget_some h2)
   obtain ⟨l, vs, lc, hl, hlen, upd'⟩ := Rel.listAt (S := []) (js := []) (xs := xs) r2 rfl
   cases lc
   obtain ⟨r3, x3⟩ := upd' [] [] (xs.zip vs) (by simp) rfl
   refine ⟨_, hv0, .inl ⟨rfl, vs, .inl (.inl hl)⟩, _, vs, rfl, rfl, hl, ?_⟩
   have r4 := (Rel.put (R := xs.zip vs ++ R) r3 hv0)
   rw [List.set_set] at r4
   exact k F _ .non x3 (r4.dropA.scal rfl)
  ·cases ec
end
end DD
namespace DD
open PySem PySem.Spec PyProof.Rows L2
section
variable {X : Cx} {e o a b : Expr} {es : List Expr} {p q : DP} {c c' : DE} {pos apos cpos : Pos} {i : Nat} {js : List DP}
end
end DD
namespace DD
open PySem PySem.Spec PyProof.Rows L2
theorem allSc_nil {K : PySem.W.Frag} {F : Addr → Prop} {H : Hp} : ∀ {xs : List D} {vs : List V} {L : List Addr}, allSc xs = true → OwL K F H xs vs L → L = []
 | [], _, _, _, o => by simp only [OwL] at o; exact o.2
 | x :: xs, _, _, h, o => by
  simp only [OwL] at o
  obtain ⟨v, ws, L1, L2, rfl, h1, h2, rfl⟩ := o
  unfold allSc at h
  rw [List.all_cons, Bool.and_eq_true, Option.isSome_iff_exists] at h
  obtain ⟨⟨w, hw⟩, ht⟩ := h
  rw [allSc_nil (xs := xs) ht h2, (h1.sc hw).2]; rfl
noncomputable def dSlB (p : DP) (pl ph : Option DP) : DE := fun σ => (p σ).bind fun d => match d with
 | .lst _ xs => if allSc xs = true then (evO pl σ).bind fun l => (evO ph σ).map fun h => (.lst true (cutG xs l h), σ) else none
 | _ => none
section
variable {X : Cx} {e a b : Expr} {lo hi : Option Expr} {pl ph : Option DP} {p q : DP} {c c' : DE} {pos p2 : Pos} {i : Nat}
theorem qe_slB (he : QB X e p) (hl : QO X lo pl) (hh : QO X hi ph) : QE X (.Subscript e (.Slice lo hi none p2) pos) (dSlB p pl ph) := PE_imp (pe_slice sl_list he hl hh) fun σ H Q hq0 => by
 obtain ⟨F, R, σD, d, σD', r, ec, k⟩ := hq0
 unfold dSlB at ec
 rcases h1 : p σD with _ | t
 ·rw [h1] at ec; cases ec
 ·rw [h1] at ec; simp only [bind_some] at ec
  refine ⟨F, R, σD, t, r, h1, fun F1 H1 v g1 b1 => ?_⟩
  split at ec
  ·rename_i own xs
   split at ec
   ·rename_i hs
    rcases h2 : evO pl σD with _ | l
    ·rw [h2] at ec; cases ec
    ·rw [h2] at ec; simp only [bind_some] at ec
     obtain ⟨h, h3, e3⟩ := map_pair ec
     cases e3
     refine ⟨F1, _, _, l, r.grow g1, h2, fun F2 H2 g2 => ?_⟩
     refine ⟨F2, _, _, h, (r.grow g1).grow g2, h3, fun F3 H3 g3 => ?_⟩
     have r3 := ((r.grow g1).grow g2).grow g3
     obtain ⟨a, vs, rfl, sq, L, ol⟩ := ((b1.grow g2).grow g3).lst
     refine ⟨a, vs, rfl, sq, fun pp hp => ?_⟩
     have hL := allSc_nil hs ol
     subst hL
     have oc : OwL X.K F3 H3 (cutG xs l h) (cutV vs l h) [] := by
      unfold cutG cutV
      rw [← ol.length]
      exact (ol.drop).take
     obtain ⟨r5, x5⟩ := (Rel.pushL oc r3).layL oc.length.symm hp
     exact k F3 _ _ ((g1.x.trans (g2.x.trans g3.x)).trans x5) r5
   ·cases ec
  ·cases ec
end
structure ItR (K : PySem.W.Frag) (J : It) (xs : List D) (S : List (Addr × List V)) : Prop where
 item : ∀ i d F1 H1, (∀ z ∈ S, H1 z.1 = some (.lst z.2)) → (∀ a, F1 a → ∃ o, H1 a = some o) → xs[i]? = some d → J.go i H1 ∧ ∀ x H2, J.yld i H1 x H2 → ∃ F2, Grow F1 H1 F2 H2 ∧ Ow K F2 H2 d x []
 done : ∀ H1, (∀ z ∈ S, H1 z.1 = some (.lst z.2)) → J.stop xs.length H1
section
variable {X : Cx} {e tg elt iter : Expr} {ifs : List Expr} {g : DG} {t : DT} {c : DE} {i : DI} {pos : Pos} {W : List Nat} {N' : List Str} {scope : Scope}
end
section
variable {X : Cx} {elt tg : Expr} {ifs : List Expr} {g : DG} {t : DT} {c : DE} {pos : Pos} {W : List Nat} {scope : Scope} {k : Nat} {elts : List Expr} {x1 : Nat} {tpos p1 pos1 npos npos2 : Pos}
end
end DD
namespace DD
open PySem PySem.Spec PyProof.Rows L2
section
variable {X : Cx} {a b : Expr} {c : DE} {p q : DP} {pos : Pos}
end
end DD
namespace L2
open PySem PySem.Spec PyProof.Rows
end L2
namespace DD
open PySem PySem.Spec PyProof.Rows L2
section
variable {X : Cx} {a b o e : Expr} {c c' : DE} {p p1 pos1 : Pos} {elts : List Expr} {x1 : Nat} {tpos pos : Pos}
end
end DD
namespace DD
open PySem PySem.Spec PyProof.Rows L2
section
variable {X : Cx} {elt tg iter : Expr} {ifs : List Expr} {g : DG} {t : DT} {c : DE} {pos : Pos} {W : List Nat} {scope : Scope} {k : Nat} {elts : List Expr} {x1 : Nat} {tpos p1 pos1 npos npos2 : Pos}
end
end DD
namespace L2
open PySem PySem.Spec PyProof.Rows
section
variable {prog : Program} {w : World} {A : Around} {E : Value → Shared → Prop} {s : Shared}
end
end L2
namespace DD
open PySem PySem.Spec PyProof.Rows L2
section
variable {X : Cx} {a b o e : Expr} {c c' : DE} {p p1 pos1 kp cp : Pos} {elts : List Expr} {x1 : Nat} {tpos pos : Pos} {kk : Nat}
end
section
variable {X : Cx} {elt : Expr} {ifs : List Expr} {g : DG} {t : DT} {c : DE} {pos : Pos} {W : List Nat} {scope : Scope} {k : Nat} {elts : List Expr} {x1 : Nat} {tpos p1 pos1 npos kp cp : Pos} {kk : Nat}
end
end DD
namespace L2
open PySem PySem.Spec PyProof.Rows
section
variable {prog : Program} {w : World} {A : Around} {E : Value → Shared → Prop} {s : Shared}
end
section
variable {X : Cx} {pos : Pos}
end
end L2
namespace DD
open PySem PySem.Spec PyProof.Rows L2
section
variable {X : Cx} {e tg a : Expr} {ts : List Expr} {g : DG} {gs : DGs} {pos p1 p2 pos2 : Pos} {W W' : List Nat} {c : DE} {apos cpos : Pos}
end
end DD
namespace DD
open PySem PySem.Spec PyProof.Rows L2
section
variable {X : Cx} {e o a b : Expr} {es : List Expr} {p q : DP} {c c' : DE} {pos apos cpos : Pos} {i : Nat} {js : List DP}
end
end DD
namespace L2
open PySem PySem.Spec PyProof.Rows
section
variable {X : Cx} {tg : Expr} {pos : Pos}
end
end L2
namespace DD
open PySem PySem.Spec PyProof.Rows L2
section
variable {X : Cx} {tg e a b c : Expr} {ca : DA} {p1 pos1 : Pos}
end
end DD
namespace L2
open PySem PySem.Spec PyProof.Rows
section
variable {X : Cx} {pos : Pos}
end
end L2
namespace DD
open PySem PySem.Spec PyProof.Rows L2
section
variable {X : Cx} {a b c : Expr} {ca : DA} {p1 p2 pos pos2 : Pos}
end
end DD
namespace L2
open PySem PySem.Spec PyProof.Rows
section
variable {X : Cx} {e st : Expr} {te ts : TE} {pos p2 : Pos}
end
end L2
namespace DD
open PySem PySem.Spec PyProof.Rows L2
section
variable {X : Cx} {e st : Expr} {p q : DP} {pos p2 : Pos}
end
end DD
namespace PySem
open Sem (wp)
namespace F
end F
noncomputable abbrev IsQ (h : Heap) (T : Addr) (a b c d : Value) : Prop := h.get? T = some { cls := .type "tuple", data := .seq #[a, b, c, d] }
section
variable {prog : Program} {w : World} {A : Around} {E : Value → Shared → Prop} {s : Shared}
structure At4 (h : Heap) (n l1 l2 l3 l4 : Nat) (xs1 xs2 xs3 xs4 : Array Value) (k : Nat) (f0 : Value) : Prop where
 z : IsZip h (n + 6) (n + 4) (n + 5) f0
 ti : IsQ h (n + 4) (.ref n) (.ref (n + 1)) (.ref (n + 2)) (.ref (n + 3))
 to : ∃ a b c d, IsQ h (n + 5) a b c d
 i1 : h.IsListIter n l1 k
 i2 : h.IsListIter (n + 1) l2 k
 i3 : h.IsListIter (n + 2) l3 k
 i4 : h.IsListIter (n + 3) l4 k
 l1 : h.IsList l1 xs1
 l2 : h.IsList l2 xs2
 l3 : h.IsList l3 xs3
 l4 : h.IsList l4 xs4
theorem At4.frame {h h' : Heap} {n l1 l2 l3 l4 : Nat} {xs1 xs2 xs3 xs4 : Array Value} {k : Nat} {f0 : Value} (a : At4 h n l1 l2 l3 l4 xs1 xs2 xs3 xs4 k f0) (hk : ∀ (c : Nat) o, h.get? c = some o → h'.get? c = some o) : At4 h' n l1 l2 l3 l4 xs1 xs2 xs3 xs4 k f0 where
 z := hk _ _ a.z
 ti := hk _ _ a.ti
 to := by obtain ⟨x, y, u, v, e⟩ := a.to; exact ⟨x, y, u, v, hk _ _ e⟩
 i1 := a.i1.at fun o e => hk _ o e
 i2 := a.i2.at fun o e => hk _ o e
 i3 := a.i3.at fun o e => hk _ o e
 i4 := a.i4.at fun o e => hk _ o e
 l1 := a.l1.at fun o e => hk _ o e
 l2 := a.l2.at fun o e => hk _ o e
 l3 := a.l3.at fun o e => hk _ o e
 l4 := a.l4.at fun o e => hk _ o e
end
section
variable {prog : Program} {w : World} {A : Around} {E : Value → Shared → Prop} {s : Shared}
end
end PySem
namespace L2
open PySem PySem.Spec PyProof.Rows
noncomputable def St4 (n a b c d : Nat) (i : Nat) (h : Heap) : Prop := IsZip h (n + 6) (n + 4) (n + 5) .none ∧ IsQ h (n + 4) (.ref n) (.ref (n + 1)) (.ref (n + 2)) (.ref (n + 3)) ∧ (∃ u v x y, IsQ h (n + 5) u v x y) ∧ h.IsListIter n a i ∧ h.IsListIter (n + 1) b i ∧ h.IsListIter (n + 2) c i ∧ h.IsListIter (n + 3) d i
noncomputable def fp4 (n : Nat) : List Addr := [n + 6, n + 4, n + 5, n, n + 1, n + 2, n + 3]
theorem fp4_in {n : Nat} {c : Addr} (h : c ∈ fp4 n) : c = n + 6 ∨ c = n + 4 ∨ c = n + 5 ∨ c = n ∨ c = n + 1 ∨ c = n + 2 ∨ c = n + 3 := by
 unfold fp4 at h
 simpa only [List.mem_cons, List.not_mem_nil, or_false] using h
theorem St4.obj {n a b c d i : Nat} {h : Heap} (st : St4 n a b c d i h) : ∀ x ∈ fp4 n, ∃ o, h.get? x = some o ∧ ∀ v, o.data ≠ .cell v := by
 obtain ⟨hz, hTI, ⟨u, v, x, y, hTO⟩, ⟨o1, e1, c1, d1⟩, ⟨o2, e2, c2, d2⟩, ⟨o3, e3, c3, d3⟩, ⟨o4, e4, c4, d4⟩⟩ := st
 intro x hx
 rcases fp4_in hx with rfl | rfl | rfl | rfl | rfl | rfl | rfl
 ·exact ⟨_, hz, fun v z => nomatch z⟩
 ·exact ⟨_, hTI, fun v z => nomatch z⟩
 ·exact ⟨_, hTO, fun v z => nomatch z⟩
 ·exact ⟨_, e1, fun v z => by rw [d1] at z; cases z⟩
 ·exact ⟨_, e2, fun v z => by rw [d2] at z; cases z⟩
 ·exact ⟨_, e3, fun v z => by rw [d3] at z; cases z⟩
 ·exact ⟨_, e4, fun v z => by rw [d4] at z; cases z⟩
theorem St4.keep {n a b c d i : Nat} {h h' : Heap} (st : St4 n a b c d i h) (k : ∀ x ∈ fp4 n, ∀ o, h.get? x = some o → h'.get? x = some o) : St4 n a b c d i h' := by
 obtain ⟨hz, hTI, ⟨u, v, x, y, hTO⟩, h1, h2, h3, h4⟩ := st
 exact ⟨k _ (by simp [fp4]) _ hz, k _ (by simp [fp4]) _ hTI, ⟨u, v, x, y, k _ (by simp [fp4]) _ hTO⟩, h1.at fun o e => k _ (by simp [fp4]) o e, h2.at fun o e => k _ (by simp [fp4]) o e, h3.at fun o e => k _ (by simp [fp4]) o e, h4.at fun o e => k _ (by simp [fp4]) o e⟩
end L2
namespace DD
open PySem PySem.Spec PyProof.Rows L2
section
variable {X : Cx} {a b c d : Expr} {ca cb cc cd : DE} {p1 pos1 : Pos} {elts : List Expr} {x1 : Nat} {tpos : Pos}
end
end DD
namespace PySem.AutoSeq1
end PySem.AutoSeq1
namespace L2
open PySem PySem.Spec PyProof.Rows
section
variable {X : Cx}
end
end L2
namespace DD
open PySem PySem.Spec PyProof.Rows L2
section
variable {X : Cx} {e : Expr} {c : DE} {apos cpos : Pos}
end
end DD
namespace TT
open PySem L2 DD
noncomputable abbrev Rl (α : Type) := α → D → Prop
structure Sl (S : Type) where
 {α : Type}
 get : S → α
 r : Rl α
noncomputable abbrev Shp (S : Type) := List (Option (Sl S))
section
variable {S : Type} {α β γ δ ρ : Type}
noncomputable def On : Option (Sl S) → S → Option D → Prop
 | none, _, _ => True
 | some l, s, o => ∃ d, o = some d ∧ l.r (l.get s) d
noncomputable def Sat : Shp S → S → DSt → Prop
 | [], _, [] => True
 | a :: Γ, s, x :: σ => On a s x ∧ Sat Γ s σ
 | _, _, _ => False
theorem Sat.len : ∀ {Γ : Shp S} {s : S} {σ : DSt}, Sat Γ s σ → σ.length = Γ.length
 | [], _, [], _ => rfl
 | _ :: Γ, s, _ :: σ, h => by simp [Sat.len (Γ := Γ) (σ := σ) h.2]
 | [], _, _ :: _, h => h.elim
 | _ :: _, _, [], h => h.elim
theorem Sat.get : ∀ {Γ : Shp S} {s : S} {σ : DSt} {i : Nat} {l : Sl S}, Sat Γ s σ → Γ[i]? = some (some l) → ∃ d, dget σ i = some d ∧ l.r (l.get s) d
 | [], _, [], i, l, _, e => by simp at e
 | a :: Γ, s, x :: σ, 0, l, h, e => by
  simp at e; subst e
  obtain ⟨d, rfl, hd⟩ := h.1
  exact ⟨d, rfl, hd⟩
 | _ :: Γ, s, x :: σ, i + 1, l, h, e => by
  obtain ⟨d, h1, h2⟩ := Sat.get (i := i) h.2 (by simpa using e)
  exact ⟨d, by simpa [dget] using h1, h2⟩
 | [], _, _ :: _, _, _, h, _ => h.elim
 | _ :: _, _, [], _, _, h, _ => h.elim
theorem Sat.set : ∀ {Γ : Shp S} {s : S} {σ : DSt} {i : Nat} {l : Option (Sl S)} {o : Option D}, Sat Γ s σ → On l s o → Sat (Γ.set i l) s (σ.set i o)
 | [], _, [], _, _, _, h, _ => h
 | _ :: Γ, _, _ :: σ, 0, _, _, h, k => ⟨k, h.2⟩
 | _ :: Γ, _, _ :: σ, i + 1, _, _, h, k => ⟨h.1, Sat.set (i := i) h.2 k⟩
 | [], _, _ :: _, _, _, _, h, _ => h.elim
 | _ :: _, _, [], _, _, _, h, _ => h.elim
theorem Sat.setn {Γ : Shp S} {s : S} {σ : DSt} {i : Nat} {o : Option D} (h : Sat Γ s σ) : Sat (Γ.set i none) s (σ.set i o) := h.set trivial
theorem On.setn : ∀ {Γ : Shp S} {s : S} {σ : DSt} {i : Nat}, Sat Γ s σ → Sat (Γ.set i none) s σ
 | [], _, [], _, h => h
 | _ :: Γ, _, _ :: σ, 0, h => ⟨trivial, h.2⟩
 | _ :: Γ, _, _ :: σ, i + 1, h => ⟨h.1, On.setn (i := i) h.2⟩
 | [], _, _ :: _, _, h => h.elim
 | _ :: _, _, [], _, h => h.elim
inductive Fr (u : S → S) : Shp S → Prop
 | nil : Fr u []
 | non {Γ} : Fr u Γ → Fr u (none :: Γ)
 | som {l : Sl S} {Γ} : (∀ s d, l.r (l.get s) d → l.r (l.get (u s)) d) → Fr u Γ → Fr u (some l :: Γ)
theorem Fr.sat {u : S → S} {s : S} : ∀ {Γ : Shp S} {σ : DSt}, Fr u Γ → Sat Γ s σ → Sat Γ (u s) σ
 | [], [], _, h => h
 | none :: Γ, _ :: σ, .non f, h => ⟨trivial, f.sat h.2⟩
 | some l :: Γ, x :: σ, .som f1 f, h => by
  obtain ⟨d, e, hd⟩ := h.1
  exact ⟨⟨d, e, f1 s d hd⟩, f.sat h.2⟩
 | [], _ :: _, _, h => h.elim
 | _ :: _, [], _, h => h.elim
class Wk (r r' : Rl α) : Prop where
 w : ∀ a d, r a d → r' a d
instance (priority := high) Wk.refl {r : Rl α} : Wk r r := ⟨fun _ _ h => h⟩
inductive Le : Shp S → Shp S → Prop
 | nil : Le [] []
 | non {a} {Γ Γ'} : Le Γ Γ' → Le (a :: Γ) (none :: Γ')
 | som {α : Type} {g : S → α} {r r' : Rl α} {Γ Γ'} : Wk r r' → Le Γ Γ' → Le (some ⟨g, r⟩ :: Γ) (some ⟨g, r'⟩ :: Γ')
theorem Le.sat {s : S} : ∀ {Γ Γ' : Shp S} {σ : DSt}, Le Γ Γ' → Sat Γ s σ → Sat Γ' s σ
 | [], [], [], _, h => h
 | _ :: Γ, none :: Γ', _ :: σ, .non f, h => ⟨trivial, f.sat h.2⟩
 | _, _, _ :: σ, .som w f, h => by
  obtain ⟨d, e, hd⟩ := h.1
  exact ⟨⟨d, e, w.w _ _ hd⟩, f.sat h.2⟩
 | [], [], _ :: _, _, h => h.elim
 | _ :: _, _, [], _, h => h.elim
theorem Le.refl : ∀ {Γ : Shp S}, Le Γ Γ
 | [] => .nil
 | none :: _ => .non Le.refl
 | some ⟨_, _⟩ :: _ => .som Wk.refl Le.refl
noncomputable def szC (n : Nat) : Bool := decide (n ≤ sizeLine)
noncomputable def ltC (n : Nat) : Bool := decide (n < sizeLine)
theorem szC_le {n : Nat} (h : szC n = true) : n ≤ sizeLine := of_decide_eq_true h
theorem ltC_lt {n : Nat} (h : ltC n = true) : n < sizeLine := of_decide_eq_true h
noncomputable def rI : Rl Int := fun i d => d = .int i
noncomputable def rB : Rl Bool := fun b d => d = .bl b
noncomputable def rS : Rl Str := fun x d => d = .str x
noncomputable def rN : Rl Unit := fun _ d => d = .non
noncomputable def rA : Rl Unit := fun _ _ => True
noncomputable def rTy (t : String) : Rl Unit := fun _ d => d = .ty t
inductive All2 (r : Rl α) : List α → List D → Prop
 | nil : All2 r [] []
 | cons {a d as ds} : r a d → All2 r as ds → All2 r (a :: as) (d :: ds)
noncomputable def rL (r : Rl α) : Rl (List α) := fun xs d => ∃ ds, d = .lst true ds ∧ All2 r xs ds
noncomputable def rM (r : Rl α) : Rl (List α) := fun xs d => ∃ o ds, d = .lst o ds ∧ All2 r xs ds
noncomputable def rT2 (r : Rl α) (q : Rl β) : Rl (α × β) := fun p d => ∃ x y, d = .tup [x, y] ∧ r p.1 x ∧ q p.2 y
noncomputable def rT4 (r : Rl α) (q : Rl β) (t : Rl γ) (u : Rl δ) : Rl (α × β × γ × δ) := fun p d => ∃ x y z w, d = .tup [x, y, z, w] ∧ r p.1 x ∧ q p.2.1 y ∧ t p.2.2.1 z ∧ u p.2.2.2 w
noncomputable def rP : Rl PyData := fun p d => d.py = some p ∧ d.fz = d
theorem All2.len {r : Rl α} : ∀ {as : List α} {ds : List D}, All2 r as ds → as.length = ds.length
 | _, _, .nil => rfl
 | _, _, .cons _ h => by simp [h.len]
theorem All2.mono {r r' : Rl α} (k : ∀ a d, r a d → r' a d) : ∀ {as : List α} {ds : List D}, All2 r as ds → All2 r' as ds
 | _, _, .nil => .nil
 | _, _, .cons a h => .cons (k _ _ a) (h.mono k)
theorem All2.get {r : Rl α} : ∀ {as : List α} {ds : List D} {i : Nat} {a : α}, All2 r as ds → as[i]? = some a → ∃ d, ds[i]? = some d ∧ r a d
 | _, _, 0, _, .cons h _, e => by simp at e; subst e; exact ⟨_, rfl, h⟩
 | _, _, i + 1, _, .cons _ h, e => by simpa using h.get (i := i) (by simpa using e)
theorem All2.set {r : Rl α} : ∀ {as : List α} {ds : List D} {i : Nat} {a : α} {d : D}, All2 r as ds → r a d → All2 r (as.set i a) (ds.set i d)
 | _, _, _, _, _, .nil, _ => .nil
 | _, _, 0, _, _, .cons _ h, k => .cons k h
 | _, _, i + 1, _, _, .cons h0 h, k => .cons h0 (h.set k)
theorem All2.append {r : Rl α} : ∀ {as bs : List α} {ds es : List D}, All2 r as ds → All2 r bs es → All2 r (as ++ bs) (ds ++ es)
 | _, _, _, _, .nil, k => k
 | _, _, _, _, .cons h0 h, k => .cons h0 (h.append k)
theorem All2.drop {r : Rl α} : ∀ {as : List α} {ds : List D} (n : Nat), All2 r as ds → All2 r (as.drop n) (ds.drop n)
 | _, _, 0, h => h
 | _, _, _ + 1, .nil => .nil
 | _, _, n + 1, .cons _ h => h.drop n
theorem All2.take {r : Rl α} : ∀ {as : List α} {ds : List D} (n : Nat), All2 r as ds → All2 r (as.take n) (ds.take n)
 | _, _, 0, h => .nil
 | _, _, _ + 1, .nil => .nil
 | _, _, n + 1, .cons k h => .cons k (h.take n)
theorem All2.rep {r : Rl α} {a : α} {d : D} (h : r a d) : ∀ n, All2 r (List.replicate n a) (List.replicate n d)
 | 0 => .nil
 | n + 1 => .cons h (All2.rep h n)
theorem All2.dropLast {r : Rl α} {as : List α} {ds : List D} (h : All2 r as ds) : All2 r as.dropLast ds.dropLast := by
 rw [List.dropLast_eq_take, List.dropLast_eq_take, h.len]; exact h.take _
theorem All2.flat {r : Rl α} {as : List α} {ds : List D} (h : All2 r as ds) : ∀ n, All2 r (List.replicate n as).flatten (List.replicate n ds).flatten
 | 0 => .nil
 | n + 1 => by rw [List.replicate_succ, List.replicate_succ, List.flatten_cons, List.flatten_cons]; exact h.append (h.flat n)
theorem All2.ofMap {r : Rl α} {f : β → α} {g : β → D} (k : ∀ b, r (f b) (g b)) : ∀ bs : List β, All2 r (bs.map f) (bs.map g)
 | [] => .nil
 | b :: bs => .cons (k b) (All2.ofMap k bs)
theorem rI_map : ∀ ns : List Int, All2 rI ns (ns.map D.int)
 | [] => .nil
 | _ :: ns => .cons rfl (rI_map ns)
class Fz (r : Rl α) (r' : outParam (Rl α)) : Prop where
 f : ∀ a d, r a d → r' a d.fz
theorem All2.fz {r r' : Rl α} (k : ∀ a d, r a d → r' a d.fz) : ∀ {as : List α} {ds : List D}, All2 r as ds → All2 r' as (D.fzL ds)
 | _, _, .nil => .nil
 | _, _, .cons a h => .cons (k _ _ a) (h.fz k)
instance : Fz rI rI := ⟨fun _ _ h => by cases h; rfl⟩
instance {r r' : Rl α} [k : Fz r r'] : Fz (rL r) (rM r') := ⟨fun _ _ ⟨ds, e, h⟩ => ⟨false, D.fzL ds, by rw [e, D.fz], h.fz k.f⟩⟩
instance {r r' : Rl α} [k : Fz r r'] : Fz (rM r) (rM r') := ⟨fun _ _ ⟨o, ds, e, h⟩ => ⟨false, D.fzL ds, by rw [e, D.fz], h.fz k.f⟩⟩
instance {r r' : Rl α} {q q' : Rl β} [k : Fz r r'] [l : Fz q q'] : Fz (rT2 r q) (rT2 r' q') := ⟨fun _ _ ⟨x, y, e, h1, h2⟩ => ⟨x.fz, y.fz, by rw [e]; simp only [D.fz, D.fzL], k.f _ _ h1, l.f _ _ h2⟩⟩
instance {r r' : Rl α} [k : Wk r r'] : Wk (rL r) (rM r') := ⟨fun _ _ ⟨ds, e, h⟩ => ⟨true, ds, e, h.mono k.w⟩⟩
class Sc (r : Rl α) : Prop where
 s : ∀ a d, r a d → ∃ w, d.sc = some w
instance : Sc rI := ⟨fun _ _ h => by cases h; exact ⟨_, rfl⟩⟩
instance : Sc rB := ⟨fun _ _ h => by cases h; exact ⟨_, rfl⟩⟩
instance : Sc rS := ⟨fun _ _ h => by cases h; exact ⟨_, rfl⟩⟩
class Ns (r : Rl α) : Prop where
 s : ∀ a d, r a d → d.sc = none
instance {r : Rl α} : Ns (rL r) := ⟨fun _ _ hq0 => by obtain ⟨_, e, _⟩ := hq0; rw [e]; rfl⟩
instance {r : Rl α} : Ns (rM r) := ⟨fun _ _ hq0 => by obtain ⟨_, _, e, _⟩ := hq0; rw [e]; rfl⟩
class Ls (r : Rl (List α)) (q : outParam (Rl α)) : Prop where
 l : ∀ xs d, r xs d → ∃ o ds, d = .lst o ds ∧ All2 q xs ds
instance {r : Rl α} : Ls (rL r) r := ⟨fun _ _ ⟨ds, e, h⟩ => ⟨true, ds, e, h⟩⟩
instance {r : Rl α} : Ls (rM r) r := ⟨fun _ _ ⟨o, ds, e, h⟩ => ⟨o, ds, e, h⟩⟩
end
end TT
namespace TT
open PySem L2 DD
section
variable {S : Type} {α β γ δ ρ : Type} {Γ Γ1 Γ2 Γ3 Γ' Γn : Shp S}
inductive TR (S ρ : Type) where
 | nx (s : S) | rt (v : ρ) (s : S) | bk (s : S) | ct (s : S)
noncomputable def JP (Γ : Shp S) (p : DP) (f : S → Option α) (r : Rl α) : Prop := ∀ s σ v, Sat Γ s σ → f s = some v → ∃ d, p σ = some d ∧ r v d
noncomputable def JE (Γ : Shp S) (c : DE) (f : S → Option (α × S)) (r : Rl α) (Γ' : Shp S) : Prop := ∀ s σ v s', Sat Γ s σ → f s = some (v, s') → ∃ d σ', c σ = some (d, σ') ∧ r v d ∧ Sat Γ' s' σ'
noncomputable def JT (Γ : Shp S) (t : DT) (f : S → Option (Bool × S)) (Γ' : Shp S) : Prop := ∀ s σ b s', Sat Γ s σ → f s = some (b, s') → ∃ σ', t σ = some (b, σ') ∧ Sat Γ' s' σ'
noncomputable def JL (Γ : Shp S) (c : DA) (f : S → Option (List α × S)) (r : Rl α) (Γ' : Shp S) : Prop := ∀ s σ v s', Sat Γ s σ → f s = some (v, s') → ∃ ds σ', c σ = some (ds, σ') ∧ All2 r v ds ∧ Sat Γ' s' σ'
noncomputable def JI (Γ : Shp S) (c : DI) (f : S → Option (List α × S)) (r : Rl α) (Γ' : Shp S) : Prop := ∀ s σ v s', Sat Γ s σ → f s = some (v, s') → ∃ ds σ', c σ = some (ds, σ') ∧ All2 r v ds ∧ Sat Γ' s' σ'
noncomputable def JG (Γ : Shp S) (g : DG) (put : S → α → S) (r : Rl α) (Γ' : Shp S) : Prop := ∀ s σ v d, Sat Γ s σ → r v d → ∃ σ', g d σ = some σ' ∧ Sat Γ' (put s v) σ'
structure Ex (S ρ : Type) where
 rt : Shp S
 ro : Rl ρ
 lp : Shp S
noncomputable def Rs (Γn : Shp S) (E : Ex S ρ) : TR S ρ → Out → Prop
 | .nx s, .nx σ => Sat Γn s σ
 | .rt v s, .rt d σ => E.ro v d ∧ Sat E.rt s σ
 | .bk s, .bk σ => Sat E.lp s σ
 | .ct s, .ct σ => Sat E.lp s σ
 | _, _ => False
noncomputable def JS (Γ : Shp S) (c : DS) (f : S → Option (TR S ρ)) (Γn : Shp S) (E : Ex S ρ) : Prop := ∀ s σ t, Sat Γ s σ → f s = some t → ∃ o, c σ = some o ∧ Rs Γn E t o
theorem bd {α β : Type} {o : Option α} {f : α → Option β} {b : β} (h : o.bind f = some b) : ∃ a, o = some a ∧ f a = some b := by
 cases o with
 | none => cases h
 | some a => exact ⟨a, rfl, h⟩
theorem mp {α β : Type} {o : Option α} {f : α → β} {b : β} (h : o.map f = some b) : ∃ a, o = some a ∧ f a = b := by
 cases o with
 | none => cases h
 | some a => exact ⟨a, rfl, Option.some.inj h⟩
theorem jp_v (i : Nat) {get : S → α} {r : Rl α} (h : Γ[i]? = some (some ⟨get, r⟩)) : JP Γ (pV i) (fun s => some (get s)) r := fun s σ v hs e => by
 obtain ⟨d, h1, h2⟩ := hs.get h
 cases e
 exact ⟨d, h1, h2⟩
theorem jp_c {d : D} (v : α) {r : Rl α} (h : r v d) : JP Γ (pC d) (fun _ => some v) r := fun s σ w hs e => by cases e; exact ⟨d, rfl, h⟩
theorem jp_i (i : Int) : JP Γ (pC (.int i)) (fun _ => some i) rI := jp_c i rfl
theorem jp_b (i : Bool) : JP Γ (pC (.bl i)) (fun _ => some i) rB := jp_c i rfl
theorem jp_s (i : Str) : JP Γ (pC (.str i)) (fun _ => some i) rS := jp_c i rfl
theorem jp_ty (t : String) : JP Γ (pC (.ty t)) (fun _ => some ()) (rTy t) := jp_c () rfl
noncomputable def JO (g : D → D → Option D) (h : α → β → Option γ) (ra : Rl α) (rb : Rl β) (rc : Rl γ) : Prop := ∀ a b c x y, h a b = some c → ra a x → rb b y → ∃ z, g x y = some z ∧ rc c z
theorem jp_op {g : D → D → Option D} {h : α → β → Option γ} {ra : Rl α} {rb : Rl β} {rc : Rl γ} {p q : DP} {f1 : S → Option α} {f2 : S → Option β} (o : JO g h ra rb rc) (h1 : JP Γ p f1 ra) (h2 : JP Γ q f2 rb) :
  JP Γ (pOp g p q) (fun s => (f1 s).bind fun a => (f2 s).bind fun b => h a b) rc := fun s σ v hs e => by
 obtain ⟨a, e1, e⟩ := bd e
 obtain ⟨b, e2, e⟩ := bd e
 obtain ⟨x, hx, rx⟩ := h1 s σ a hs e1
 obtain ⟨y, hy, ry⟩ := h2 s σ b hs e2
 obtain ⟨z, hz, rz⟩ := o a b v x y e rx ry
 exact ⟨z, by simp only [pOp, hx, hy, bind_some, hz], rz⟩
theorem jo_I0 {f : Int → Int → Int} : JO (gI0 f) (fun a b => some (f a b)) rI rI rI := fun a b c x y e h1 h2 => by cases h1; cases h2; cases e; exact ⟨_, rfl, rfl⟩
theorem jo_I {C : Int → Int → Bool} {f : Int → Int → Int} : JO (gI C f) (fun a b => if C a b = true then some (f a b) else none) rI rI rI := fun a b c x y e h1 h2 => by
 cases h1; cases h2
 dsimp only at e
 split at e
 ·rename_i h; cases e; exact ⟨_, if_pos h, rfl⟩
 ·cases e
noncomputable def mulN (i j : Int) : Bool := Nat.ble i.natAbs 9223372036854775808 || Nat.ble j.natAbs 9223372036854775808
theorem mulN_ok {i j : Int} (h : mulN i j = true) : mulC i j = true := by
 simp only [mulN, Bool.or_eq_true, Nat.ble_eq] at h
 simp only [mulC, decide_eq_true_eq]
 omega
theorem jo_mul : JO gMul (fun a b => if mulN a b = true then some (a * b) else none) rI rI rI := fun a b c x y e h1 h2 => by
 cases h1; cases h2
 dsimp only at e
 split at e
 ·rename_i h; cases e; exact ⟨_, if_pos (mulN_ok h), rfl⟩
 ·cases e
noncomputable def rokC (i : Int) : Bool := Nat.ble i.natAbs 1000000000
theorem rokC_ok {i : Int} (h : rokC i = true) : rOk i = true := by
 simp only [rokC, Nat.ble_eq] at h
 simp only [rOk, decide_eq_true_eq]
 omega
theorem jo_B0 {f : Int → Int → Bool} : JO (gB0 f) (fun a b => some (f a b)) rI rI rB := fun a b c x y e h1 h2 => by cases h1; cases h2; cases e; exact ⟨_, rfl, rfl⟩
theorem jp_neg {p : DP} {f : S → Option Int} (h : JP Γ p f rI) : JP Γ (pNeg p) (fun s => (f s).map fun a => -a) rI := fun s σ v hs e => by
 obtain ⟨a, e1, e2⟩ := mp e
 obtain ⟨x, hx, rx⟩ := h s σ a hs e1
 cases rx; cases e2
 exact ⟨_, by simp only [pNeg, hx, bind_some, gNeg], rfl⟩
class Py {α : Type} (r : Rl α) where
 pe : α → PyData
 ok : α → Bool
 k : Nat
 py : ∀ a d, r a d → d.py = some (pe a)
 lay : ∀ a, ok a = true → (pe a).canLay0 = true
 dep : ∀ a, ok a = true → (pe a).depth ≤ k
class EqR {α β : Type} (r : Rl α) (q : Rl β) [Py r] [Py q] (f : outParam (α → β → Bool)) : Prop where
 eqv : ∀ a b, PyData.eqv (Py.pe r a) (Py.pe q b) = f a b
instance : Py rI := ⟨PyData.int, fun _ => true, 0, fun _ _ h => by cases h; rfl, fun _ _ => rfl, fun _ _ => Nat.le_refl _⟩
instance : Py rB := ⟨PyData.bool, fun _ => true, 0, fun _ _ h => by cases h; rfl, fun _ _ => rfl, fun _ _ => Nat.le_refl _⟩
instance : Py rS := ⟨PyData.str, PyData.strOk, 0, fun _ _ h => by cases h; rfl, fun _ h => h, fun _ _ => Nat.le_refl _⟩
theorem pyL_of {r : Rl α} [k : Py r] : ∀ {as : List α} {ds : List D}, All2 r as ds → D.pyL ds = some (as.map (Py.pe r))
 | _, _, .nil => rfl
 | _, _, .cons h t => by simp only [D.pyL, k.py _ _ h, pyL_of t, bind_some, map_some, List.map_cons]
theorem layL_of {r : Rl α} [k : Py r] : ∀ {as : List α}, as.all (Py.ok r) = true → PyData.canLayAll0 (as.map (Py.pe r)) = true
 | [], _ => rfl
 | a :: as, h => by
  simp only [List.all_cons, Bool.and_eq_true] at h
  simp only [List.map_cons, PyData.canLayAll0, k.lay _ h.1, layL_of h.2, Bool.and_self]
theorem depL_of {r : Rl α} [k : Py r] : ∀ {as : List α}, as.all (Py.ok r) = true → PyData.depthAll (as.map (Py.pe r)) ≤ Py.k r
 | [], _ => Nat.zero_le _
 | a :: as, h => by
  simp only [List.all_cons, Bool.and_eq_true] at h
  simp only [List.map_cons, PyData.depthAll]; exact Nat.max_le.mpr ⟨k.dep a h.1, depL_of h.2⟩
instance {r : Rl (List α)} {q : Rl α} [l : Ls r q] [k : Py q] : Py r := ⟨fun as => .list (as.map (Py.pe q)), fun as => as.all (Py.ok q), Py.k q + 1,
 fun a d h => by obtain ⟨o, ds, e, h⟩ := l.l a d h; rw [e]; simp only [D.py, pyL_of h, map_some], fun a h => by simp only [PyData.canLay0]; exact layL_of h, fun a h => by simp only [PyData.depth]; have := depL_of (r := q) (as := a) h; omega⟩
noncomputable def eqL (f : α → β → Bool) : List α → List β → Bool
 | [], [] => true
 | a :: as, b :: bs => f a b && eqL f as bs
 | _, _ => false
instance : EqR rI rI (fun a b => a == b) := ⟨fun a b => by simp only [Py.pe, PyData.eqv]⟩
instance : EqR rB rB (fun a b => a == b) := ⟨fun a b => by cases a <;> cases b <;> rfl⟩
instance : EqR rS rS (fun a b => a == b) := ⟨fun a b => by simp only [Py.pe, PyData.eqv]⟩
theorem eqvL {r : Rl α} {q : Rl β} [Py r] [Py q] {f : α → β → Bool} [k : EqR r q f] : ∀ {as : List α} {bs : List β}, PyData.eqvAll (as.map (Py.pe r)) (bs.map (Py.pe q)) = eqL f as bs
 | [], [] => rfl
 | [], _ :: _ => rfl
 | _ :: _, [] => rfl
 | a :: as, b :: bs => by simp only [List.map_cons, PyData.eqvAll, eqL, k.eqv a b, eqvL]
instance {r : Rl (List α)} {q : Rl (List β)} {r' : Rl α} {q' : Rl β} [Ls r r'] [Ls q q'] [Py r'] [Py q'] {f : α → β → Bool} [k : EqR r' q' f] : EqR r q (eqL f) := ⟨fun a b => by simp only [Py.pe, PyData.eqv]; exact eqvL⟩
theorem py_ok {r : Rl α} {q : Rl β} [kr : Py r] [kq : Py q] {a : α} {b : β} (h : (Py.ok r a && Py.ok q b && decide (min (Py.k r) (Py.k q) ≤ 50)) = true) : pyOk (Py.pe r a) (Py.pe q b) = true := by
 simp only [Bool.and_eq_true, decide_eq_true_eq] at h
 simp only [pyOk, kr.lay _ h.1.1, kq.lay _ h.1.2, Bool.and_self, Bool.true_and, decide_eq_true_eq]
 have h1 := kr.dep a h.1.1
 have h2 := kq.dep b h.1.2
 omega
theorem jo_eq {r : Rl α} {q : Rl β} [kr : Py r] [kq : Py q] {f : α → β → Bool} [k : EqR r q f] : JO gEq (fun a b => if (Py.ok r a && Py.ok q b && decide (min (Py.k r) (Py.k q) ≤ 50)) = true then some (f a b) else none) r q rB := fun a b c x y e h1 h2 => by
 dsimp only at e
 split at e
 ·rename_i h
  cases e
  exact ⟨_, by simp only [gEq, kr.py _ _ h1, kq.py _ _ h2, bind_some, py_ok h, if_true, k.eqv], rfl⟩
 ·cases e
theorem jo_ne {r : Rl α} {q : Rl β} [kr : Py r] [kq : Py q] {f : α → β → Bool} [k : EqR r q f] : JO gNe (fun a b => if (Py.ok r a && Py.ok q b && decide (min (Py.k r) (Py.k q) ≤ 50)) = true then some (!f a b) else none) r q rB := fun a b c x y e h1 h2 => by
 dsimp only at e
 split at e
 ·rename_i h
  cases e
  exact ⟨_, by simp only [gNe, kr.py _ _ h1, kq.py _ _ h2, bind_some, py_ok h, if_true, k.eqv], rfl⟩
 ·cases e
theorem All2.at {r : Rl α} {as : List α} {ds : List D} {i : Int} {a : α} (h : All2 r as ds) (e : atI as i = some a) : ∃ d, atI ds i = some d ∧ r a d := by
 unfold atI at e ⊢
 rw [← h.len]
 obtain ⟨j, e1, e2⟩ := bd e
 obtain ⟨d, h1, h2⟩ := h.get e2
 exact ⟨d, by rw [e1]; exact h1, h2⟩
theorem jo_ix {r : Rl (List α)} {q : Rl α} [l : Ls r q] : JO ixD (fun (xs : List α) i => atI xs i) r rI q := fun a b c x y e h1 h2 => by
 obtain ⟨o, ds, e1, h⟩ := l.l a x h1
 cases h2; subst e1
 exact h.at e
noncomputable def JB1 (g : List D → Option D) (h : α → Option γ) (ra : Rl α) (rc : Rl γ) : Prop := ∀ a c x, h a = some c → ra a x → ∃ z, g [x] = some z ∧ rc c z
noncomputable def JB2 (g : List D → Option D) (h : α → β → Option γ) (ra : Rl α) (rb : Rl β) (rc : Rl γ) : Prop := ∀ a b c x y, h a b = some c → ra a x → rb b y → ∃ z, g [x, y] = some z ∧ rc c z
theorem jp_b1 {g : List D → Option D} {h : α → Option γ} {ra : Rl α} {rc : Rl γ} {p : DP} {f : S → Option α} (o : JB1 g h ra rc) (h1 : JP Γ p f ra) : JP Γ (pCall g [p]) (fun s => (f s).bind h) rc := fun s σ v hs e => by
 obtain ⟨a, e1, e⟩ := bd e
 obtain ⟨x, hx, rx⟩ := h1 s σ a hs e1
 obtain ⟨z, hz, rz⟩ := o a v x e rx
 exact ⟨z, by simp only [pCall, evB, hx, bind_some, map_some, hz], rz⟩
theorem jp_b2 {g : List D → Option D} {h : α → β → Option γ} {ra : Rl α} {rb : Rl β} {rc : Rl γ} {p q : DP} {f1 : S → Option α} {f2 : S → Option β} (o : JB2 g h ra rb rc) (h1 : JP Γ p f1 ra) (h2 : JP Γ q f2 rb) : JP Γ (pCall g [p, q]) (fun s => (f1 s).bind fun a => (f2 s).bind fun b => h a b) rc := fun s σ v hs e => by
 obtain ⟨a, e1, e⟩ := bd e
 obtain ⟨b, e2, e⟩ := bd e
 obtain ⟨x, hx, rx⟩ := h1 s σ a hs e1
 obtain ⟨y, hy, ry⟩ := h2 s σ b hs e2
 obtain ⟨z, hz, rz⟩ := o a b v x y e rx ry
 exact ⟨z, by simp only [pCall, evB, hx, hy, bind_some, map_some, hz], rz⟩
theorem jb_len {r : Rl (List α)} {q : Rl α} [l : Ls r q] : JB1 lenD (fun xs : List α => some (xs.length : Int)) r rI := fun a c x e h => by
 obtain ⟨o, ds, e1, hh⟩ := l.l a x h
 cases e; subst e1
 exact ⟨_, rfl, by rw [hh.len]; rfl⟩
theorem jb_intB : JB1 intD (fun b : Bool => some (if b then (1 : Int) else 0)) rB rI := fun a c x e h => by cases h; cases e; exact ⟨_, rfl, rfl⟩
theorem jb_min : JB2 min2D (fun i j : Int => some (if j < i then j else i)) rI rI rI := fun a b c x y e h k => by cases h; cases k; cases e; exact ⟨_, rfl, rfl⟩
theorem ints_ok : ∀ {as : List Int} {ds : List D}, All2 rI as ds → intsOf ds = some as
 | _, _, .nil => rfl
 | _, _, .cons h t => by cases h; simp only [intsOf, ints_ok t, map_some]
theorem jb_sum {r : Rl (List Int)} [l : Ls r rI] : JB1 sumD (fun xs : List Int => some xs.sum) r rI := fun a c x e h => by
 obtain ⟨o, ds, e1, hh⟩ := l.l a x h
 cases e; subst e1
 exact ⟨_, by simp only [sumD, ints_ok hh, map_some], rfl⟩
class Kd (r : Rl α) (k : outParam String) : Prop where
 k : ∀ a d t, r a d → isiD [d, .ty t] = (isiT k t).map .bl
instance : Kd rB "bool" := ⟨fun _ _ _ h => by cases h; rfl⟩
theorem jb_isi {r : Rl α} {k t : String} [n : Kd r k] : JB2 isiD (fun (_ : α) (_ : Unit) => isiT k t) r (rTy t) rB := fun a b c x y e h1 h2 => by
 cases h2
 dsimp only at e
 exact ⟨_, by rw [n.k a x t h1, e]; rfl, rfl⟩
end
end TT
namespace TT
open PySem L2 DD
section
variable {S : Type} {α β γ δ ρ : Type} {Γ Γ0 Γ1 Γ2 Γ3 Γ4 Γ' Γn Γh : Shp S} {c c' : DE} {t u : DT} {E : Ex S ρ}
theorem je_s {p : DP} {f : S → Option α} {r : Rl α} [k : Sc r] (h : JP Γ p f r) : JE Γ (dS p) (fun s => (f s).map fun a => (a, s)) r Γ := fun s σ v s' hs e => by
 obtain ⟨a, e1, e2⟩ := mp e
 cases e2
 obtain ⟨d, hd, rd⟩ := h s σ v hs e1
 obtain ⟨w, hw⟩ := k.s _ _ rd
 exact ⟨d, σ, by simp only [dS, hd, bind_some, hw], rd, hs⟩
theorem je_cp (i : Nat) {get : S → α} {r r' : Rl α} [k : Fz r r'] (h : Γ[i]? = some (some ⟨get, r⟩)) : JE Γ (dCp i) (fun s => some (get s, s)) r' (Γ.set i (some ⟨get, r'⟩)) := fun s σ v s' hs e => by
 obtain ⟨d, h1, h2⟩ := hs.get h
 cases e
 exact ⟨d.fz, _, by simp only [dCp, h1, map_some], k.f _ _ h2, hs.set ⟨_, rfl, k.f _ _ h2⟩⟩
theorem je_mv (i : Nat) {get : S → α} {r : Rl α} (h : Γ[i]? = some (some ⟨get, r⟩)) : JE Γ (dMv i) (fun s => some (get s, s)) r (Γ.set i none) := fun s σ v s' hs e => by
 obtain ⟨d, h1, h2⟩ := hs.get h
 cases e
 exact ⟨d, σ.set i none, by simp only [dMv, h1, map_some], h2, hs.setn⟩
theorem je_op {g : D → D → Option D} {h : α → β → Option γ} {ra : Rl α} {rb : Rl β} {rc : Rl γ} {f1 : S → Option (α × S)} {f2 : S → Option (β × S)} (o : JO g h ra rb rc) (h1 : JE Γ c f1 ra Γ1) (h2 : JE Γ1 c' f2 rb Γ2) :
  JE Γ (dOp g c c') (fun s => (f1 s).bind fun p => (f2 p.2).bind fun q => (h p.1 q.1).map fun v => (v, q.2)) rc Γ2 := fun s σ v s' hs e => by
 obtain ⟨⟨a, s1⟩, e1, e⟩ := bd e
 obtain ⟨⟨b, s2⟩, e2, e⟩ := bd e
 obtain ⟨w, e3, e⟩ := mp e
 cases e
 obtain ⟨x, σ1, hx, rx, k1⟩ := h1 s σ a s1 hs e1
 obtain ⟨y, σ2, hy, ry, k2⟩ := h2 s1 σ1 b s2 k1 e2
 obtain ⟨z, hz, rz⟩ := o a b v x y e3 rx ry
 exact ⟨z, σ2, by simp only [dOp, hx, hy, bind_some, hz, map_some], rz, k2⟩
theorem je_ix {r : Rl (List α)} {q : Rl α} [l : Ls r q] {f1 : S → Option (List α × S)} {f2 : S → Option (Int × S)} (h1 : JE Γ c f1 r Γ1) (h2 : JE Γ1 c' f2 rI Γ2) :
  JE Γ (dIx c c') (fun s => (f1 s).bind fun p => (f2 p.2).bind fun q => (atI p.1 q.1).map fun v => (v, q.2)) q Γ2 := je_op jo_ix h1 h2
theorem jl_nil {r : Rl α} : JL Γ aNil (fun s => some ([], s)) r Γ := fun s σ v s' hs e => by cases e; exact ⟨[], σ, rfl, .nil, hs⟩
theorem jl_cons {r : Rl α} {ca : DA} {f : S → Option (α × S)} {g : S → Option (List α × S)} (h1 : JE Γ c f r Γ1) (h2 : JL Γ1 ca g r Γ2) : JL Γ (aCons c ca) (fun s => (f s).bind fun p => (g p.2).map fun q => (p.1 :: q.1, q.2)) r Γ2 := fun s σ v s' hs e => by
 obtain ⟨⟨a, s1⟩, e1, e⟩ := bd e
 obtain ⟨⟨b, s2⟩, e2, e⟩ := mp e
 cases e
 obtain ⟨x, σ1, hx, rx, k1⟩ := h1 s σ a s1 hs e1
 obtain ⟨ys, σ2, hy, ry, k2⟩ := h2 s1 σ1 b s2 k1 e2
 exact ⟨x :: ys, σ2, by simp only [aCons, hx, hy, bind_some, map_some], .cons rx ry, k2⟩
theorem je_lst {r : Rl α} {ca : DA} {f : S → Option (List α × S)} (h : JL Γ ca f r Γ1) : JE Γ (dLst ca) (fun s => (f s).bind fun p => if szC (p.1.length) = true then some p else none) (rL r) Γ1 := fun s σ v s' hs e => by
 obtain ⟨⟨a, s1⟩, e1, e⟩ := bd e
 obtain ⟨ds, σ1, hx, rx, k1⟩ := h s σ a s1 hs e1
 dsimp only at e
 split at e
 ·rename_i hl
  have hl := szC_le hl
  cases e
  exact ⟨_, σ1, by simp only [dLst, hx, bind_some, ← rx.len, hl, if_true], ⟨ds, rfl, rx⟩, k1⟩
 ·cases e
theorem szl {n : Nat} (h : n ≤ 100) : n ≤ sizeLine := Nat.le_of_lt (L2.small1000 (by omega))
theorem je_t2 {a b : DE} {ra : Rl α} {rb : Rl β} {f : S → Option (α × S)} {g : S → Option (β × S)} (h1 : JE Γ a f ra Γ1) (h2 : JE Γ1 b g rb Γ2) : JE Γ (dTup (aCons a (aCons b aNil))) (fun s => (f s).bind fun p => (g p.2).map fun q => ((p.1, q.1), q.2)) (rT2 ra rb) Γ2 := fun s σ v s' hs e => by
 obtain ⟨⟨a, s1⟩, e1, e⟩ := bd e
 obtain ⟨⟨b, s2⟩, e2, e⟩ := mp e
 cases e
 obtain ⟨x, σ1, hx, rx, k1⟩ := h1 s σ a s1 hs e1
 obtain ⟨y, σ2, hy, ry, k2⟩ := h2 s1 σ1 b s2 k1 e2
 exact ⟨_, σ2, by simp only [dTup, aCons, aNil, hx, hy, bind_some, map_some, List.length_cons, List.length_nil, szl (show 0 + 1 + 1 ≤ 100 by decide), if_true], ⟨x, y, rfl, rx, ry⟩, k2⟩
theorem je_t4 {a b d m : DE} {ra : Rl α} {rb : Rl β} {rd : Rl γ} {rm : Rl δ} {f : S → Option (α × S)} {g : S → Option (β × S)} {h : S → Option (γ × S)} {j : S → Option (δ × S)} (h1 : JE Γ a f ra Γ1) (h2 : JE Γ1 b g rb Γ2) (h3 : JE Γ2 d h rd Γ3) (h4 : JE Γ3 m j rm Γ4) :
  JE Γ (dTup (aCons a (aCons b (aCons d (aCons m aNil))))) (fun s => (f s).bind fun p => (g p.2).bind fun q => (h q.2).bind fun o => (j o.2).map fun n => ((p.1, q.1, o.1, n.1), n.2)) (rT4 ra rb rd rm) Γ4 := fun s σ v s' hs e => by
 obtain ⟨⟨a, s1⟩, e1, e⟩ := bd e
 obtain ⟨⟨b, s2⟩, e2, e⟩ := bd e
 obtain ⟨⟨w, s3⟩, e3, e⟩ := bd e
 obtain ⟨⟨n, s4⟩, e4, e⟩ := mp e
 cases e
 obtain ⟨x, σ1, hx, rx, k1⟩ := h1 s σ a s1 hs e1
 obtain ⟨y, σ2, hy, ry, k2⟩ := h2 s1 σ1 b s2 k1 e2
 obtain ⟨z, σ3, hz, rz, k3⟩ := h3 s2 σ2 w s3 k2 e3
 obtain ⟨o, σ4, ho, ro, k4⟩ := h4 s3 σ3 n s4 k3 e4
 exact ⟨_, σ4, by simp only [dTup, aCons, aNil, hx, hy, hz, ho, bind_some, map_some, List.length_cons, List.length_nil, szl (show 0 + 1 + 1 + 1 + 1 ≤ 100 by decide), if_true], ⟨x, y, z, o, rfl, rx, ry, rz, ro⟩, k4⟩
theorem je_b1 {g : List D → Option D} {h : α → Option γ} {ra : Rl α} {rc : Rl γ} {f : S → Option (α × S)} (o : JB1 g h ra rc) (h1 : JE Γ c f ra Γ1) : JE Γ (dCallB g (aCons c aNil)) (fun s => (f s).bind fun p => (h p.1).map fun v => (v, p.2)) rc Γ1 := fun s σ v s' hs e => by
 obtain ⟨⟨a, s1⟩, e1, e⟩ := bd e
 obtain ⟨w, e3, e⟩ := mp e
 cases e
 obtain ⟨x, σ1, hx, rx, k1⟩ := h1 s σ a s1 hs e1
 obtain ⟨z, hz, rz⟩ := o a v x e3 rx
 exact ⟨z, σ1, by simp only [dCallB, aCons, aNil, hx, bind_some, map_some, hz], rz, k1⟩
theorem je_b2 {g : List D → Option D} {h : α → β → Option γ} {ra : Rl α} {rb : Rl β} {rc : Rl γ} {f1 : S → Option (α × S)} {f2 : S → Option (β × S)} (o : JB2 g h ra rb rc) (h1 : JE Γ c f1 ra Γ1) (h2 : JE Γ1 c' f2 rb Γ2) :
  JE Γ (dCallB g (aCons c (aCons c' aNil))) (fun s => (f1 s).bind fun p => (f2 p.2).bind fun q => (h p.1 q.1).map fun v => (v, q.2)) rc Γ2 := fun s σ v s' hs e => by
 obtain ⟨⟨a, s1⟩, e1, e⟩ := bd e
 obtain ⟨⟨b, s2⟩, e2, e⟩ := bd e
 obtain ⟨w, e3, e⟩ := mp e
 cases e
 obtain ⟨x, σ1, hx, rx, k1⟩ := h1 s σ a s1 hs e1
 obtain ⟨y, σ2, hy, ry, k2⟩ := h2 s1 σ1 b s2 k1 e2
 obtain ⟨z, hz, rz⟩ := o a b v x y e3 rx ry
 exact ⟨z, σ2, by simp only [dCallB, aCons, aNil, hx, hy, bind_some, map_some, hz], rz, k2⟩
theorem je_cat {r : Rl α} {f g : S → Option (List α × S)} (h1 : JE Γ c f (rL r) Γ1) (h2 : JE Γ1 c' g (rL r) Γ2) : JE Γ (dCat c c') (fun s => (f s).bind fun p => (g p.2).bind fun q => if szC (p.1.length + q.1.length) = true then some (p.1 ++ q.1, q.2) else none) (rL r) Γ2 := fun s σ v s' hs e => by
 obtain ⟨⟨a, s1⟩, e1, e⟩ := bd e
 obtain ⟨⟨b, s2⟩, e2, e⟩ := bd e
 dsimp only at e
 split at e
 ·rename_i hl
  have hl := szC_le hl
  cases e
  obtain ⟨x, σ1, hx, ⟨xs, rfl, rx⟩, k1⟩ := h1 s σ a s1 hs e1
  obtain ⟨y, σ2, hy, ⟨ys, rfl, ry⟩, k2⟩ := h2 s1 σ1 b _ k1 e2
  exact ⟨_, σ2, by simp only [dCat, hx, hy, bind_some, ← rx.len, ← ry.len, hl, if_true], ⟨_, rfl, rx.append ry⟩, k2⟩
 ·cases e
theorem All2.sc {r : Rl α} [k : Sc r] : ∀ {as : List α} {ds : List D}, All2 r as ds → allSc ds = true
 | _, _, .nil => rfl
 | _, _, .cons h t => by
  obtain ⟨w, hw⟩ := k.s _ _ h
  have := All2.sc t
  unfold allSc at this ⊢
  rw [List.all_cons, hw, this]; rfl
noncomputable def repC (len : Nat) (n : Int) : Bool := Nat.ble n.natAbs 16777216 && Nat.ble (len * n.toNat) 16777216
theorem repC_ok {len : Nat} {n : Int} (h : repC len n = true) : -(2 ^ 63) ≤ n ∧ n < 2 ^ 63 ∧ len * n.toNat ≤ sizeLine := by
 simp only [repC, Bool.and_eq_true, Nat.ble_eq] at h
 refine ⟨by omega, by omega, ?_⟩
 have e : sizeLine = 16777216 := by decide
 rw [e]; exact h.2
theorem je_rep {r : Rl α} [k : Sc r] {f : S → Option (List α × S)} {g : S → Option (Int × S)} (h1 : JE Γ c f (rL r) Γ1) (h2 : JE Γ1 c' g rI Γ2) : JE Γ (dRep c c') (fun s => (f s).bind fun p => (g p.2).bind fun q => if repC p.1.length q.1 = true then some ((List.replicate q.1.toNat p.1).flatten, q.2) else none) (rL r) Γ2 := fun s σ v s' hs e => by
 obtain ⟨⟨a, s1⟩, e1, e⟩ := bd e
 obtain ⟨⟨b, s2⟩, e2, e⟩ := bd e
 dsimp only at e
 split at e
 ·rename_i hl
  cases e
  obtain ⟨x, σ1, hx, ⟨xs, rfl, rx⟩, k1⟩ := h1 s σ a s1 hs e1
  obtain ⟨y, σ2, hy, ry, k2⟩ := h2 s1 σ1 b _ k1 e2
  cases ry
  have hsc : allSc xs = true := rx.sc
  have hl := repC_ok hl
  refine ⟨_, σ2, ?_, ⟨_, rfl, rx.flat b.toNat⟩, k2⟩
  simp only [dRep, hx, hy, bind_some]
  exact if_pos ⟨hsc, hl.1, hl.2.1, by rw [← rx.len]; exact hl.2.2⟩
 ·cases e
noncomputable def JOp (Γ : Shp S) (p : Option DP) (f : S → Option (Option Int)) : Prop := ∀ s σ v, Sat Γ s σ → f s = some v → evO p σ = some v
theorem jop_none : JOp Γ none (fun _ => some none) := fun s σ v hs e => by cases e; rfl
theorem jop_some {p : DP} {f : S → Option Int} (h : JP Γ p f rI) : JOp Γ (some p) (fun s => (f s).map some) := fun s σ v hs e => by
 obtain ⟨a, e1, e2⟩ := mp e
 obtain ⟨x, hx, rx⟩ := h s σ a hs e1
 cases rx; cases e2
 simp only [evO, hx, bind_some]
theorem All2.cut {r : Rl α} {as : List α} {ds : List D} (h : All2 r as ds) (lo hi : Option Int) : All2 r (cutG as lo hi) (cutG ds lo hi) := by
 unfold cutG
 rw [h.len]
 exact (h.drop _).take _
theorem Sat.put {i : Nat} {get : S → α} {put : S → α → S} {r : Rl α} {s : S} {σ : DSt} {v : α} {d : D} (hs : Sat Γ s σ) (hg : ∀ s v, get (put s v) = v) (hf : ∀ v, Fr (fun s => put s v) (Γ.set i none)) (h : r v d) : Sat (Γ.set i (some ⟨get, r⟩)) (put s v) (σ.set i (some d)) := by
 have h1 := (hf v).sat (On.setn (i := i) hs)
 have h2 := h1.set (i := i) (l := some ⟨get, r⟩) (o := some d) ⟨d, rfl, by rw [show (Sl.mk get r).get = get from rfl, hg]; exact h⟩
 rw [List.set_set] at h2
 exact h2
theorem je_app (i : Nat) {get : S → List α} {put : S → List α → S} {r : Rl α} [k : Sc r] {p : DP} {f : S → Option α} (h : JP Γ p f r) (hi : Γ[i]? = some (some ⟨get, rL r⟩)) (hg : ∀ s v, get (put s v) = v := by intro _ _; rfl) (hf : ∀ v, Fr (fun s => put s v) (Γ.set i none) := by intro _; repeat (first | exact Fr.nil | refine Fr.som (fun _ _ h => h) ?_ | refine Fr.non ?_)) :
  JE Γ (dApp i [] p) (fun s => (f s).bind fun v => if ltC ((get s).length) = true then some ((), put s (get s ++ [v])) else none) rN (Γ.set i (some ⟨get, rL r⟩)) := fun s σ v s' hs e => by
 obtain ⟨a, e1, e⟩ := bd e
 split at e
 ·rename_i hl
  have hl := ltC_lt hl
  cases e
  obtain ⟨x, hx, rx⟩ := h s σ a hs e1
  obtain ⟨d, hd, ds, rfl, h2⟩ := hs.get hi
  obtain ⟨w, hw⟩ := k.s _ _ rx
  exact ⟨.non, _, by simp only [dApp, hd, evI, getP, hx, hw, bind_some, ← h2.len, hl, if_true, setP], rfl, hs.put hg hf ⟨_, rfl, h2.append (.cons rx .nil)⟩⟩
 ·cases e
theorem je_appV (i : Nat) {get : S → List α} {put : S → List α → S} {rl : Rl (List α)} {r q : Rl α} [l : Ls rl q] {f : S → Option (α × S)} (h : JE Γ c f r Γ1) (h0 : Γ[i]? = some (some ⟨get, rl⟩)) (hi : Γ1[i]? = some (some ⟨get, rL r⟩)) (hg : ∀ s v, get (put s v) = v := by intro _ _; rfl) (hf : ∀ v, Fr (fun s => put s v) (Γ1.set i none) := by intro _; repeat (first | exact Fr.nil | refine Fr.som (fun _ _ h => h) ?_ | refine Fr.non ?_)) :
  JE Γ (dAppV i c) (fun s => (f s).bind fun p => if ltC ((get p.2).length) = true then some ((), put p.2 (get p.2 ++ [p.1])) else none) rN (Γ1.set i (some ⟨get, rL r⟩)) := fun s σ v s' hs e => by
 obtain ⟨⟨a, s1⟩, e1, e⟩ := bd e
 dsimp only at e
 split at e
 ·rename_i hl
  have hl := ltC_lt hl
  cases e
  obtain ⟨x, σ1, hx, rx, k1⟩ := h s σ a s1 hs e1
  obtain ⟨d0, hd0, h00⟩ := hs.get h0
  obtain ⟨o0, ds0, rfl, _⟩ := l.l _ _ h00
  obtain ⟨d, hd, ds, rfl, h2⟩ := k1.get hi
  exact ⟨.non, _, by simp only [dAppV, hd0, hx, bind_some, hd, ← h2.len, hl, if_true], rfl, k1.put hg hf ⟨_, rfl, h2.append (.cons rx .nil)⟩⟩
 ·cases e
theorem je_pop (i : Nat) {get : S → List α} {put : S → List α → S} {r : Rl α} (hi : Γ[i]? = some (some ⟨get, rL r⟩)) (hg : ∀ s v, get (put s v) = v := by intro _ _; rfl) (hf : ∀ v, Fr (fun s => put s v) (Γ.set i none) := by intro _; repeat (first | exact Fr.nil | refine Fr.som (fun _ _ h => h) ?_ | refine Fr.non ?_)) :
  JE Γ (dPopV i) (fun s => ((get s)[(get s).length - 1]?).map fun y => (y, put s (get s).dropLast)) r (Γ.set i (some ⟨get, rL r⟩)) := fun s σ v s' hs e => by
 obtain ⟨a, e1, e⟩ := mp e
 cases e
 obtain ⟨d, hd, ds, rfl, h2⟩ := hs.get hi
 obtain ⟨y, hy, ry⟩ := h2.get e1
 exact ⟨y, _, by simp only [dPopV, hd, ← h2.len, hy, map_some], ry, hs.put hg hf ⟨_, rfl, h2.dropLast⟩⟩
theorem jt_e {f : S → Option (Bool × S)} (h : JE Γ c f rB Γ1) : JT Γ (dTest c) f Γ1 := fun s σ v s' hs e => by
 obtain ⟨d, σ1, h1, h2, h3⟩ := h s σ v s' hs e
 cases h2
 exact ⟨σ1, by simp only [dTest, h1, bind_some], h3⟩
theorem jt_not {f : S → Option (Bool × S)} (h : JT Γ t f Γ1) : JT Γ (tNotD t) (fun s => (f s).map fun p => (!p.1, p.2)) Γ1 := fun s σ v s' hs e => by
 obtain ⟨⟨a, s1⟩, e1, e2⟩ := mp e
 obtain ⟨σ1, h1, h2⟩ := h s σ a s1 hs e1
 cases e2
 exact ⟨σ1, by simp only [tNotD, h1, map_some], h2⟩
theorem jt_and {f g : S → Option (Bool × S)} (h1 : JT Γ t f Γ1) (h2 : JT Γ1 u g Γ2) (l : Le Γ1 Γ' := by (first | exact Le.refl | (repeat (first | exact Le.nil | refine Le.som inferInstance ?_ | refine Le.non ?_)))) (l2 : Le Γ2 Γ' := by (first | exact Le.refl | (repeat (first | exact Le.nil | refine Le.som inferInstance ?_ | refine Le.non ?_)))) : JT Γ (tAndD t u) (fun s => (f s).bind fun p => if p.1 = true then g p.2 else some (false, p.2)) Γ' := fun s σ v s' hs e => by
 obtain ⟨⟨a, s1⟩, e1, e2⟩ := bd e
 obtain ⟨σ1, hx, k1⟩ := h1 s σ a s1 hs e1
 cases a
 ·simp only [Bool.false_eq_true, if_false] at e2
  cases e2
  exact ⟨σ1, by simp only [tAndD, hx, bind_some, Bool.false_eq_true, if_false], l.sat k1⟩
 ·simp only [if_true] at e2
  obtain ⟨σ2, hy, k2⟩ := h2 s1 σ1 v s' k1 e2
  exact ⟨σ2, by simp only [tAndD, hx, bind_some, hy, if_true], l2.sat k2⟩
theorem jt_or {f g : S → Option (Bool × S)} (h1 : JT Γ t f Γ1) (h2 : JT Γ1 u g Γ2) (l : Le Γ1 Γ' := by (first | exact Le.refl | (repeat (first | exact Le.nil | refine Le.som inferInstance ?_ | refine Le.non ?_)))) (l2 : Le Γ2 Γ' := by (first | exact Le.refl | (repeat (first | exact Le.nil | refine Le.som inferInstance ?_ | refine Le.non ?_)))) : JT Γ (tOrD t u) (fun s => (f s).bind fun p => if p.1 = true then some (true, p.2) else g p.2) Γ' := fun s σ v s' hs e => by
 obtain ⟨⟨a, s1⟩, e1, e2⟩ := bd e
 obtain ⟨σ1, hx, k1⟩ := h1 s σ a s1 hs e1
 cases a
 ·simp only [Bool.false_eq_true, if_false] at e2
  obtain ⟨σ2, hy, k2⟩ := h2 s1 σ1 v s' k1 e2
  exact ⟨σ2, by simp only [tOrD, hx, bind_some, hy, Bool.false_eq_true, if_false], l2.sat k2⟩
 ·simp only [if_true] at e2
  cases e2
  exact ⟨σ1, by simp only [tOrD, hx, bind_some, if_true], l.sat k1⟩
theorem jt_true : JT Γ tTrue (fun s => some (true, s)) Γ := fun s σ v s' hs e => by cases e; exact ⟨σ, rfl, hs⟩
noncomputable def tSeq (f g : S → Option (TR S ρ)) : S → Option (TR S ρ) := fun s => (f s).bind fun r => match r with | .nx s' => g s' | .rt v s' => some (.rt v s') | .bk s' => some (.bk s') | .ct s' => some (.ct s')
theorem js_dead {c : DS} : JS Γ c (fun _ => none) Γn E := fun s σ v hs e => by cases e
theorem js_seq {a b : DS} {f g : S → Option (TR S ρ)} (h1 : JS Γ a f Γ1 E) (h2 : JS Γ1 b g Γ2 E) : JS Γ (sSeq a b) (tSeq f g) Γ2 E := fun s σ v hs e => by
 obtain ⟨r, e1, e2⟩ := bd e
 obtain ⟨o, ho, ro⟩ := h1 s σ r hs e1
 cases r with
 | nx s' =>
  cases o with
  | nx σ' =>
   obtain ⟨o2, h3, r3⟩ := h2 s' σ' v ro e2
   exact ⟨o2, by simp only [sSeq, ho, bind_some, h3], r3⟩
  | _ => exact ro.elim
 | rt w s' =>
  cases e2
  cases o with
  | rt d σ' => exact ⟨.rt d σ', by simp only [sSeq, ho, bind_some], ro⟩
  | _ => exact ro.elim
 | bk s' =>
  cases e2
  cases o with
  | bk σ' => exact ⟨.bk σ', by simp only [sSeq, ho, bind_some], ro⟩
  | _ => exact ro.elim
 | ct s' =>
  cases e2
  cases o with
  | ct σ' => exact ⟨.ct σ', by simp only [sSeq, ho, bind_some], ro⟩
  | _ => exact ro.elim
theorem js_le {a : DS} {f : S → Option (TR S ρ)} (h : JS Γ a f Γ1 E) (l : Le Γ1 Γn) : JS Γ a f Γn E := fun s σ v hs e => by
 obtain ⟨o, ho, ro⟩ := h s σ v hs e
 refine ⟨o, ho, ?_⟩
 cases v <;> cases o <;> first | exact l.sat ro | exact ro
theorem js_set (i : Nat) {get : S → α} {put : S → α → S} {r : Rl α} {f : S → Option (α × S)} (h : JE Γ c f r Γ1) (hg : ∀ s v, get (put s v) = v := by intro _ _; rfl) (hf : ∀ v, Fr (fun s => put s v) (Γ1.set i none) := by intro _; repeat (first | exact Fr.nil | refine Fr.som (fun _ _ h => h) ?_ | refine Fr.non ?_)) (hi : i < Γ1.length := by decide) :
  JS Γ (sSet i c) (fun s => (f s).map fun p => .nx (put p.2 p.1)) (Γ1.set i (some ⟨get, r⟩)) E := fun s σ v hs e => by
 obtain ⟨⟨a, s1⟩, e1, e2⟩ := mp e
 cases e2
 obtain ⟨d, σ1, h1, h2, h3⟩ := h s σ a s1 hs e1
 have hl : i < σ1.length := by rw [h3.len]; exact hi
 exact ⟨.nx (σ1.set i (some d)), by simp only [sSet, h1, bind_some, hl, if_true], h3.put hg hf h2⟩
theorem js_if {a b : DS} {ft : S → Option (Bool × S)} {f g : S → Option (TR S ρ)} (h0 : JT Γ t ft Γ0) (h1 : JS Γ0 a f Γ1 E) (h2 : JS Γ0 b g Γ2 E) (l1 : Le Γ1 Γ' := by (first | exact Le.refl | (repeat (first | exact Le.nil | refine Le.som inferInstance ?_ | refine Le.non ?_)))) (l2 : Le Γ2 Γ' := by (first | exact Le.refl | (repeat (first | exact Le.nil | refine Le.som inferInstance ?_ | refine Le.non ?_)))) : JS Γ (sIf t a b) (fun s => (ft s).bind fun p => if p.1 = true then f p.2 else g p.2) Γ' E := fun s σ v hs e => by
 obtain ⟨⟨b, s1⟩, e1, e2⟩ := bd e
 obtain ⟨σ1, hx, k1⟩ := h0 s σ b s1 hs e1
 cases b
 ·simp only [Bool.false_eq_true, if_false] at e2
  obtain ⟨o, ho, ro⟩ := (js_le h2 l2) s1 σ1 v k1 e2
  exact ⟨o, by simp only [sIf, hx, bind_some, ho, Bool.false_eq_true, if_false], ro⟩
 ·simp only [if_true] at e2
  obtain ⟨o, ho, ro⟩ := (js_le h1 l1) s1 σ1 v k1 e2
  exact ⟨o, by simp only [sIf, hx, bind_some, ho, if_true], ro⟩
theorem js_ret {r : Rl ρ} {f : S → Option (ρ × S)} (h : JE Γ c f r Γ1) (w : Wk r E.ro := by infer_instance) (l : Le Γ1 E.rt := by (first | exact Le.refl | (repeat (first | exact Le.nil | refine Le.som inferInstance ?_ | refine Le.non ?_)))) : JS Γ (sRet c) (fun s => (f s).map fun p => .rt p.1 p.2) Γn E := fun s σ v hs e => by
 obtain ⟨⟨a, s1⟩, e1, e2⟩ := mp e
 cases e2
 obtain ⟨d, σ1, h1, h2, h3⟩ := h s σ a s1 hs e1
 exact ⟨.rt d σ1, by simp only [sRet, h1, map_some], w.w _ _ h2, l.sat h3⟩
theorem js_drop {r : Rl α} {f : S → Option (α × S)} (h : JE Γ c f r Γ1) : JS Γ (sDrop c) (fun s => (f s).map fun p => .nx p.2) Γ1 E := fun s σ v hs e => by
 obtain ⟨⟨a, s1⟩, e1, e2⟩ := mp e
 cases e2
 obtain ⟨d, σ1, h1, h2, h3⟩ := h s σ a s1 hs e1
 exact ⟨.nx σ1, by simp only [sDrop, h1, map_some], h3⟩
theorem js_skip : JS Γ sSkip (fun s => some (.nx s)) Γ E := fun s σ v hs e => by cases e; exact ⟨_, rfl, hs⟩
theorem All2.ix {r : Rl α} {as : List α} {ds : List D} (h : All2 r as ds) {i : Int} : ixN ds.length i = ixN as.length i := by rw [h.len]
theorem js_augS (i : Nat) {get : S → List α} {put : S → List α → S} {r : Rl α} {rb : Rl β} [k : Sc r] {g : D → D → Option D} {h : α → β → Option α} {q p : DP} {fq : S → Option Int} {f : S → Option β} (o : JO g h r rb r) (hq : JP Γ q fq rI) (h1 : JP Γ p f rb) (h0 : Γ[i]? = some (some ⟨get, rL r⟩)) (hg : ∀ s v, get (put s v) = v := by intro _ _; rfl) (hf : ∀ v, Fr (fun s => put s v) (Γ.set i none) := by intro _; repeat (first | exact Fr.nil | refine Fr.som (fun _ _ h => h) ?_ | refine Fr.non ?_)) :
  JS Γ (sAugIx g i [] q p) (fun s => (fq s).bind fun kk => (ixN (get s).length kk).bind fun j => ((get s)[j]?).bind fun x => (f s).bind fun y => (h x y).map fun z => .nx (put s ((get s).set j z))) (Γ.set i (some ⟨get, rL r⟩)) E := fun s σ v hs e => by
 obtain ⟨kk, e1, e⟩ := bd e
 obtain ⟨j, e2, e⟩ := bd e
 obtain ⟨x, e3, e⟩ := bd e
 obtain ⟨y, e4, e⟩ := bd e
 obtain ⟨z, e5, e⟩ := mp e
 cases e
 obtain ⟨d, hd, ds, rfl, h2⟩ := hs.get h0
 obtain ⟨dq, hdq, rq⟩ := hq s σ kk hs e1
 cases rq
 obtain ⟨dx, hdx, rx⟩ := h2.get e3
 obtain ⟨wv, hw⟩ := k.s _ _ rx
 obtain ⟨dy, hdy, ry⟩ := h1 s σ y hs e4
 obtain ⟨dz, hdz, rz⟩ := o _ _ _ _ _ e5 rx ry
 exact ⟨.nx _, by simp only [sAugIx, hd, evI, getP, bind_some, hdq, h2.ix, e2, hdx, hw, hdy, hdz, map_some, setP], hs.put hg hf ⟨_, rfl, h2.set rz⟩⟩
theorem jg_nm (i : Nat) {get : S → α} {put : S → α → S} {r : Rl α} (hg : ∀ s v, get (put s v) = v := by intro _ _; rfl) (hf : ∀ v, Fr (fun s => put s v) (Γ.set i none) := by intro _; repeat (first | exact Fr.nil | refine Fr.som (fun _ _ h => h) ?_ | refine Fr.non ?_)) (hi : i < Γ.length := by decide) : JG Γ (gNm i) put r (Γ.set i (some ⟨get, r⟩)) := fun s σ v d hs h => by
 have hl : i < σ.length := by rw [hs.len]; exact hi
 exact ⟨_, by simp only [gNm, hl, if_true], hs.put hg hf h⟩
theorem jg_t2 {g1 g2 : DG} {p1 : S → α → S} {p2 : S → β → S} {ra : Rl α} {rb : Rl β} (h1 : JG Γ g1 p1 ra Γ1) (h2 : JG Γ1 g2 p2 rb Γ2) : JG Γ (gTupD 2 (gConsD g1 (gConsD g2 gNilD))) (fun s v => p2 (p1 s v.1) v.2) (rT2 ra rb) Γ2 := fun s σ v d hs hq0 => by
 obtain ⟨x, y, e, hx, hy⟩ := hq0
 obtain ⟨σ1, e1, k1⟩ := h1 s σ v.1 x hs hx
 obtain ⟨σ2, e2, k2⟩ := h2 _ σ1 v.2 y k1 hy
 exact ⟨σ2, by simp only [e, gTupD, gConsD, gNilD, List.length_cons, List.length_nil, e1, e2, bind_some, if_true], k2⟩
theorem js_setS (i : Nat) {get : S → List α} {put : S → List α → S} {r : Rl α} {q : DP} {fq : S → Option Int} {f : S → Option (α × S)} (h : JE Γ c f r Γ1) (hq : JP Γ1 q fq rI) (h0 : Γ1[i]? = some (some ⟨get, rL r⟩)) (hg : ∀ s v, get (put s v) = v := by intro _ _; rfl) (hf : ∀ v, Fr (fun s => put s v) (Γ1.set i none) := by intro _; repeat (first | exact Fr.nil | refine Fr.som (fun _ _ h => h) ?_ | refine Fr.non ?_)) :
  JS Γ (sAsg c (gSet i [] q)) (fun s => (f s).bind fun p => (fq p.2).bind fun kk => (ixN (get p.2).length kk).map fun j => .nx (put p.2 ((get p.2).set j p.1))) (Γ1.set i (some ⟨get, rL r⟩)) E := fun s σ v hs e => by
 obtain ⟨⟨a, s1⟩, e1, e⟩ := bd e
 obtain ⟨kk, e2, e⟩ := bd e
 obtain ⟨j, e3, e⟩ := mp e
 cases e
 obtain ⟨d, σ1, h1, h2, h3⟩ := h s σ a s1 hs e1
 obtain ⟨dq, hdq, rq⟩ := hq s1 σ1 kk h3 e2
 cases rq
 obtain ⟨d', hd, ds, rfl, h4⟩ := h3.get h0
 dsimp only at e3
 exact ⟨.nx _, by simp only [sAsg, h1, bind_some, gSet, hd, evI, getP, hdq, h4.ix, e3, map_some, setP], h3.put hg hf ⟨_, rfl, h4.set h2⟩⟩
theorem ji_lst {rl : Rl (List α)} {r r' : Rl α} [l : Ls rl r] [k : Fz r r'] {f : S → Option (List α × S)} (h : JE Γ c f rl Γ1) : JI Γ (iLst c) f r' Γ1 := fun s σ v s' hs e => by
 obtain ⟨d, σ1, h1, h2, h3⟩ := h s σ v s' hs e
 obtain ⟨o, ds, rfl, h⟩ := l.l v d h2
 exact ⟨_, σ1, by simp only [iLst, h1, bind_some], h.fz k.f, h3⟩
noncomputable def rng (lo hi : Int) : List Int := (List.range (hi - lo).toNat).map fun (k : Nat) => lo + k
theorem rng_ok (lo hi : Int) : All2 rI (rng lo hi) (rngD lo hi) := by unfold rng rngD; exact All2.ofMap (r := rI) (f := fun (k : Nat) => lo + k) (g := fun (k : Nat) => D.int (lo + k)) (fun _ => rfl) _
theorem ji_r1 {f : S → Option (Int × S)} (h : JE Γ c f rI Γ1) : JI Γ (iR1 (aCons c aNil)) (fun s => (f s).bind fun p => if rokC p.1 = true then some (rng 0 p.1, p.2) else none) rI Γ1 := fun s σ v s' hs e => by
 obtain ⟨⟨a, s1⟩, e1, e⟩ := bd e
 dsimp only at e
 split at e
 ·rename_i hl
  cases e
  obtain ⟨d, σ1, h1, h2, h3⟩ := h s σ a _ hs e1
  cases h2
  refine ⟨_, σ1, ?_, rng_ok _ _, h3⟩
  simp only [iR1, aCons, aNil, h1, bind_some, map_some]
  exact if_pos (rokC_ok hl)
 ·cases e
theorem ji_r2 {f g : S → Option (Int × S)} (h : JE Γ c f rI Γ1) (h' : JE Γ1 c' g rI Γ2) : JI Γ (iR2 (aCons c (aCons c' aNil))) (fun s => (f s).bind fun p => (g p.2).bind fun q => if (rokC p.1 && rokC q.1) = true then some (rng p.1 q.1, q.2) else none) rI Γ2 := fun s σ v s' hs e => by
 obtain ⟨⟨a, s1⟩, e1, e⟩ := bd e
 obtain ⟨⟨b, s2⟩, e2, e⟩ := bd e
 dsimp only at e
 split at e
 ·rename_i hl
  cases e
  obtain ⟨d, σ1, h1, h2, h3⟩ := h s σ a s1 hs e1
  obtain ⟨d', σ2, h4, h5, h6⟩ := h' s1 σ1 b _ h3 e2
  cases h2; cases h5
  refine ⟨_, σ2, ?_, rng_ok _ _, h6⟩
  simp only [iR2, aCons, aNil, h1, h4, bind_some, map_some]
  simp only [Bool.and_eq_true] at hl
  exact if_pos (by rw [rokC_ok hl.1, rokC_ok hl.2]; rfl)
 ·cases e
theorem zip_ok {ra ra' : Rl α} {rb rb' : Rl β} (ka : ∀ a d, ra a d → ra' a d.fz) (kb : ∀ a d, rb a d → rb' a d.fz) : ∀ {as : List α} {bs : List β} {ds es : List D}, All2 ra as ds → All2 rb bs es → All2 (rT2 ra' rb') (as.zip bs) (((D.fzL ds).zip (D.fzL es)).map fun z => .tup [z.1, z.2])
 | _, _, _, _, .nil, _ => by simp only [List.zip_nil_left, D.fzL, List.map_nil]; exact .nil
 | _, _, _, _, .cons _ _, .nil => by simp only [List.zip_nil_right, D.fzL, List.map_nil]; exact .nil
 | _, _, _, _, .cons h1 t1, .cons h2 t2 => by
  simp only [List.zip_cons_cons, D.fzL, List.map_cons]
  exact .cons ⟨_, _, rfl, ka _ _ h1, kb _ _ h2⟩ (zip_ok ka kb t1 t2)
theorem ji_zip {rl : Rl (List α)} {ra ra' : Rl α} {rm : Rl (List β)} {rb rb' : Rl β} [l : Ls rl ra] [k : Fz ra ra'] [l2 : Ls rm rb] [k2 : Fz rb rb'] {f : S → Option (List α × S)} {g : S → Option (List β × S)} (h : JE Γ c f rl Γ1) (h' : JE Γ1 c' g rm Γ2) : JI Γ (iZipD c c') (fun s => (f s).bind fun p => (g p.2).map fun q => (p.1.zip q.1, q.2)) (rT2 ra' rb') Γ2 := fun s σ v s' hs e => by
 obtain ⟨⟨a, s1⟩, e1, e⟩ := bd e
 obtain ⟨⟨b, s2⟩, e2, e⟩ := mp e
 cases e
 obtain ⟨d, σ1, h1, h2, h3⟩ := h s σ a s1 hs e1
 obtain ⟨d', σ2, h4, h5, h6⟩ := h' s1 σ1 b s2 h3 e2
 obtain ⟨o, ds, rfl, hh⟩ := l.l a d h2
 obtain ⟨o', ds', rfl, hh'⟩ := l2.l b d' h5
 exact ⟨_, σ2, by simp only [iZipD, h1, h4, bind_some], zip_ok k.f k2.f hh hh', h6⟩
noncomputable def tLoop (put : S → α → S) (b : S → Option (TR S ρ)) : List α → S → Option (TR S ρ)
 | [], s => some (.nx s)
 | x :: xs, s => (b (put s x)).bind fun o => match o with
  | .nx s2 => tLoop put b xs s2
  | .ct s2 => tLoop put b xs s2
  | .bk s2 => some (.nx s2)
  | .rt d s2 => some (.rt d s2)
theorem loop_ok {g : DG} {put : S → α → S} {r : Rl α} {b : DS} {fb : S → Option (TR S ρ)} {Γx Γb : Shp S} (hg : JG Γh g put r Γx) (hb : JS Γx b fb Γb ⟨E.rt, E.ro, Γh⟩) (lb : Le Γb Γh) : ∀ {xs : List α} {ds : List D} {s : S} {σ : DSt} {t : TR S ρ}, All2 r xs ds → Sat Γh s σ → tLoop put fb xs s = some t → ∃ o, dLoop g b ds σ = some o ∧ Rs Γh E t o
 | _, _, s, σ, t, .nil, hs, e => by cases e; exact ⟨_, rfl, hs⟩
 | _, _, s, σ, t, .cons h1 h2, hs, e => by
  simp only [tLoop] at e
  obtain ⟨o, e1, e⟩ := bd e
  obtain ⟨σ1, g1, k1⟩ := hg s σ _ _ hs h1
  obtain ⟨o', b1, r1⟩ := hb _ σ1 o k1 e1
  cases o with
  | nx s2 =>
   cases o' with
   | nx σ2 =>
    obtain ⟨o2, c1, c2⟩ := loop_ok hg hb lb h2 (lb.sat r1) e
    exact ⟨o2, by simp only [dLoop, g1, bind_some, b1, c1], c2⟩
   | _ => exact r1.elim
  | ct s2 =>
   cases o' with
   | ct σ2 =>
    obtain ⟨o2, c1, c2⟩ := loop_ok hg hb lb h2 r1 e
    exact ⟨o2, by simp only [dLoop, g1, bind_some, b1, c1], c2⟩
   | _ => exact r1.elim
  | bk s2 =>
   cases e
   cases o' with
   | bk σ2 => exact ⟨.nx σ2, by simp only [dLoop, g1, bind_some, b1], r1⟩
   | _ => exact r1.elim
  | rt d s2 =>
   cases e
   cases o' with
   | rt d' σ2 => exact ⟨.rt d' σ2, by simp only [dLoop, g1, bind_some, b1], r1⟩
   | _ => exact r1.elim
theorem js_for {i : DI} {g : DG} {put : S → α → S} {r : Rl α} {b : DS} {fi : S → Option (List α × S)} {fb : S → Option (TR S ρ)} {Γx Γb : Shp S} (hi : JI Γ i fi r Γ1) (l : Le Γ1 Γh) (hg : JG Γh g put r Γx) (hb : JS Γx b fb Γb ⟨E.rt, E.ro, Γh⟩) (lb : Le Γb Γh := by (first | exact Le.refl | (repeat (first | exact Le.nil | refine Le.som inferInstance ?_ | refine Le.non ?_)))) :
  JS Γ (sForI i g b) (fun s => (fi s).bind fun p => tLoop put fb p.1 p.2) Γh E := fun s σ v hs e => by
 obtain ⟨⟨xs, s1⟩, e1, e⟩ := bd e
 obtain ⟨ds, σ1, h1, h2, h3⟩ := hi s σ xs s1 hs e1
 obtain ⟨o, h4, h5⟩ := loop_ok hg hb lb h2 (l.sat h3) e
 exact ⟨o, by simp only [sForI, h1, bind_some, h4], h5⟩
end
end TT
namespace TT
open PySem L2 DD
section
variable {S : Type} {α β γ δ ρ : Type} {Γ Γ0 Γ1 Γ2 Γ3 Γ4 Γ' Γn Γh : Shp S} {c c' : DE} {t u : DT} {E : Ex S ρ}
theorem Sat.app : ∀ {Γ Δ : Shp S} {s : S} {σ τ : DSt}, Sat Γ s σ → Sat Δ s τ → Sat (Γ ++ Δ) s (σ ++ τ)
 | [], _, _, [], _, _, h => h
 | _ :: Γ, _, _, _ :: σ, _, h, k => ⟨h.1, Sat.app h.2 k⟩
 | [], _, _, _ :: _, _, h, _ => h.elim
 | _ :: _, _, _, [], _, h, _ => h.elim
theorem Sat.split : ∀ {Γ Δ : Shp S} {s : S} {σ : DSt}, Sat (Γ ++ Δ) s σ → ∃ σ1 σ2, σ = σ1 ++ σ2 ∧ Sat Γ s σ1 ∧ Sat Δ s σ2
 | [], _, _, σ, h => ⟨[], σ, rfl, trivial, h⟩
 | _ :: Γ, _, _, x :: σ, h => by
  obtain ⟨σ1, σ2, e, h1, h2⟩ := Sat.split (Γ := Γ) h.2
  exact ⟨x :: σ1, σ2, by rw [e]; rfl, ⟨h.1, h1⟩, h2⟩
 | _ :: _, _, _, [], h => h.elim
theorem Sat.non {s : S} : ∀ {k : Nat} {σ : DSt}, σ.length = k → Sat (List.replicate k none) s σ
 | 0, [], _ => trivial
 | k + 1, _ :: σ, h => ⟨trivial, Sat.non (k := k) (by simpa using h)⟩
noncomputable def tLc (ft : α → S → Option (Bool × S)) (fe : α → S → Option (β × S)) : List α → S → Option (List β × S)
 | [], s => some ([], s)
 | x :: xs, s => (ft x s).bind fun p => if p.1 = true then (fe x p.2).bind fun q => (tLc ft fe xs q.2).map fun r => (q.1 :: r.1, r.2) else tLc ft fe xs p.2
noncomputable def JGc (Γ : Shp S) (k : Nat) (g : DG) (r : Rl α) (Δ : α → Shp S) : Prop := ∀ s σ v d, Sat (Γ ++ List.replicate k none) s σ → r v d → ∃ σ', g d σ = some σ' ∧ Sat (Γ ++ Δ v) s σ'
theorem set_app {A : List (Option D)} {a b : Option D} {B : DSt} : (A ++ a :: B).set A.length b = A ++ b :: B := by
 rw [List.set_append_right _ _ (Nat.le_refl _)]; simp
theorem jgc1 {r : Rl α} (i : Nat) (hi : i = Γ.length) : JGc Γ 1 (gNm i) r (fun v => [some ⟨fun _ => v, r⟩]) := fun s σ v d hs h => by
 obtain ⟨σ1, σ2, rfl, h1, h2⟩ := hs.split
 match σ2, h2 with
 | [o], _ =>
  have hl : σ1.length = i := by rw [h1.len, hi]
  have hl2 : i < (σ1 ++ [o]).length := by simp [hl]
  refine ⟨σ1 ++ [some d], ?_, h1.app ⟨⟨d, rfl, h⟩, trivial⟩⟩
  simp only [gNm, hl2, if_true]
  rw [← hl, set_app]
theorem jgc2 {ra : Rl α} {rb : Rl β} (i j : Nat) (hi : i = Γ.length) (hj : j = Γ.length + 1) : JGc Γ 2 (gTupD 2 (gConsD (gNm i) (gConsD (gNm j) gNilD))) (rT2 ra rb) (fun v => [some ⟨fun _ => v.1, ra⟩, some ⟨fun _ => v.2, rb⟩]) := fun s σ v d hs hq0 => by
 obtain ⟨x, y, e, hx, hy⟩ := hq0
 obtain ⟨σ1, σ2, rfl, h1, h2⟩ := hs.split
 match σ2, h2 with
 | [o, o'], _ =>
  have hl : σ1.length = i := by rw [h1.len, hi]
  have hl2 : i < (σ1 ++ [o, o']).length := by simp [hl]
  have hl3 : j < (σ1 ++ [some x, o']).length := by simp [hl]; omega
  refine ⟨σ1 ++ [some x, some y], ?_, h1.app ⟨⟨x, rfl, hx⟩, ⟨y, rfl, hy⟩, trivial⟩⟩
  have e1 : (σ1 ++ [o, o']).set i (some x) = σ1 ++ [some x, o'] := by rw [← hl, set_app]
  have e2 : (σ1 ++ [some x, o']).set j (some y) = σ1 ++ [some x, some y] := by
   have h3 : j = (σ1 ++ [some x]).length := by simp; omega
   rw [show σ1 ++ [some x, o'] = (σ1 ++ [some x]) ++ [o'] by simp, h3, set_app]; simp
  simp only [e, gTupD, gConsD, gNilD, gNm, List.length_cons, List.length_nil, if_true, hl2, e1, bind_some, hl3, e2]
theorem lc_ok {k : Nat} {g : DG} {r : Rl α} {re : Rl β} {Δ : α → Shp S} {ft : α → S → Option (Bool × S)} {fe : α → S → Option (β × S)} {Γt Γe : α → Shp S} (hg : JGc Γh k g r Δ) (ht : ∀ x, JT (Γh ++ Δ x) t (ft x) (Γt x)) (l1 : ∀ x, Le (Γt x) (Γh ++ List.replicate k none)) (he : ∀ x, JE (Γt x) c (fe x) re (Γe x)) (l2 : ∀ x, Le (Γe x) (Γh ++ List.replicate k none)) :
  ∀ {xs : List α} {ds : List D} {s : S} {σ : DSt} {ys : List β} {s' : S}, All2 r xs ds → Sat (Γh ++ List.replicate k none) s σ → tLc ft fe xs s = some (ys, s') → ∃ es σ', lcGo g t c ds σ = some (es, σ') ∧ All2 re ys es ∧ Sat (Γh ++ List.replicate k none) s' σ'
 | _, _, s, σ, _, _, .nil, hs, e => by cases e; exact ⟨[], σ, rfl, .nil, hs⟩
 | _, _, s, σ, ys, s', .cons h1 h2, hs, e => by
  simp only [tLc] at e
  obtain ⟨⟨b, s1⟩, e1, e⟩ := bd e
  obtain ⟨σ1, g1, k1⟩ := hg s σ _ _ hs h1
  obtain ⟨σ2, g2, k2⟩ := ht _ s σ1 b s1 k1 e1
  cases b
  ·simp only [Bool.false_eq_true, if_false] at e
   obtain ⟨es, σ3, g3, r3, k3⟩ := lc_ok hg ht l1 he l2 h2 ((l1 _).sat k2) e
   exact ⟨es, σ3, by simp only [lcGo, g1, bind_some, g2, Bool.false_eq_true, if_false, g3], r3, k3⟩
  ·simp only [if_true] at e
   obtain ⟨⟨v, s2⟩, e2, e⟩ := bd e
   obtain ⟨⟨w, s3⟩, e3, e⟩ := mp e
   cases e
   obtain ⟨d, σ3, g3, r3, k3⟩ := he _ s1 σ2 v s2 k2 e2
   obtain ⟨es, σ4, g4, r4, k4⟩ := lc_ok hg ht l1 he l2 h2 ((l2 _).sat k3) e3
   exact ⟨d :: es, σ4, by simp only [lcGo, g1, bind_some, g2, if_true, g3, g4, map_some], .cons r3 r4, k4⟩
theorem je_lc {k : Nat} {i : DI} {g : DG} {r : Rl α} {re : Rl β} {Δ : α → Shp S} {fi : S → Option (List α × S)} {ft : α → S → Option (Bool × S)} {fe : α → S → Option (β × S)} {Γt Γe : α → Shp S} (hi : JI Γ i fi r Γ1) (l : Le Γ1 Γh) (hg : JGc Γh k g r Δ) (ht : ∀ x, JT (Γh ++ Δ x) t (ft x) (Γt x)) (he : ∀ x, JE (Γt x) c (fe x) re (Γe x)) (l1 : ∀ x, Le (Γt x) (Γh ++ List.replicate k none) := by intro _; repeat (first | exact Le.nil | refine Le.som inferInstance ?_ | refine Le.non ?_)) (l2 : ∀ x, Le (Γe x) (Γh ++ List.replicate k none) := by intro _; repeat (first | exact Le.nil | refine Le.som inferInstance ?_ | refine Le.non ?_)) :
  JE Γ (dLc k i g t c) (fun s => (fi s).bind fun p => if szC (p.1.length) = true then tLc ft fe p.1 p.2 else none) (rL re) Γh := fun s σ v s' hs e => by
 obtain ⟨⟨xs, s1⟩, e1, e⟩ := bd e
 obtain ⟨ds, σ1, h1, h2, h3⟩ := hi s σ xs s1 hs e1
 dsimp only at e
 split at e
 ·rename_i hl
  have hl := szC_le hl
  have h4 := l.sat h3
  obtain ⟨es, σ2, g2, r2, k2⟩ := lc_ok hg ht l1 he l2 h2 (h4.app (Sat.non (k := k) (σ := List.replicate k none) (by simp))) e
  obtain ⟨σa, σb, rfl, ka, kb⟩ := k2.split
  refine ⟨_, σa, ?_, ⟨es, rfl, r2⟩, ka⟩
  have hl2 : ds.length ≤ sizeLine := by rw [← h2.len]; exact hl
  have hlen : σ1.length = σa.length := by rw [h4.len, ka.len]
  simp only [dLc, h1, bind_some, hl2, if_true, g2, map_some, hlen, List.take_left]
 ·cases e
theorem bc_ok {g : Nat} {r r' : Rl α} {re : Rl β} {ft : α → S → Option (Bool × S)} {fe : α → S → Option (β × S)} {Γt Γe : α → Shp S} (hx : g = Γh.length) (ht : ∀ x, JT (Γh ++ [some ⟨fun _ => x, r⟩]) t (ft x) (Γt x)) (l1 : ∀ x, Le (Γt x) (Γh ++ [some ⟨fun _ => x, r'⟩])) (he : ∀ x, JE (Γt x) c (fe x) re (Γe x)) (l2 : ∀ x, Le (Γe x) (Γh ++ [some ⟨fun _ => x, r'⟩])) :
  ∀ {xs : List α} {ds : List D} {s : S} {σ : DSt} {ys : List β} {s' : S}, All2 r xs ds → Sat (Γh ++ [none]) s σ → tLc ft fe xs s = some (ys, s') → ∃ es zs σ', bComp g t c ds σ = some (es, zs, σ') ∧ All2 re ys es ∧ All2 r' xs zs ∧ Sat (Γh ++ [none]) s' σ'
 | _, _, s, σ, _, _, .nil, hs, e => by cases e; exact ⟨[], [], σ, rfl, .nil, .nil, hs⟩
 | x :: _, d0 :: _, s, σ, ys, s', .cons h1 h2, hs, e => by
  simp only [tLc] at e
  obtain ⟨⟨b, s1⟩, e1, e⟩ := bd e
  have k1 : Sat (Γh ++ [some ⟨fun _ => x, r⟩]) s (σ.set g (some d0)) := by
   have q := hs.set (i := g) (l := some (Sl.mk (fun _ => x) r)) (o := some d0) ⟨d0, rfl, h1⟩
   have e : (Γh ++ [none]).set g (some (Sl.mk (fun _ => x) r)) = Γh ++ [some (Sl.mk (fun _ => x) r)] := by
    rw [hx, List.set_append_right _ _ (Nat.le_refl _)]; simp
   rw [e] at q; exact q
  obtain ⟨σ2, g2, k2⟩ := ht _ s _ b s1 k1 e1
  have gv : ∀ {s2 : S} {σ3 : DSt}, Sat (Γh ++ [some ⟨fun _ => x, r'⟩]) s2 σ3 → ∃ d σ4, give g σ3 = (d, σ4) ∧ r' x d ∧ Sat (Γh ++ [none]) s2 σ4 := fun {s2 σ3} q => by
   obtain ⟨d, hd, rd⟩ := q.get (i := g) (l := Sl.mk (fun _ => x) r') (by rw [hx]; simp)
   have q0 : Sat (Γh ++ [none]) s2 σ3 := by
    have z := On.setn (i := g) q
    have e : (Γh ++ [some (Sl.mk (fun _ => x) r')]).set g none = Γh ++ [none] := by
     rw [hx, List.set_append_right _ _ (Nat.le_refl _)]; simp
    rw [e] at z; exact z
   have q1 : Sat (Γh ++ [none]) s2 (σ3.set g none) := by
    have z := q0.setn (i := g) (o := none)
    have e : (Γh ++ [none]).set g none = Γh ++ [none] := by
     rw [hx, List.set_append_right _ _ (Nat.le_refl _)]; simp
    rw [e] at z; exact z
   rcases hs : d.sc with _ | w
   ·exact ⟨d, _, by simp only [give, hd, hs], rd, q1⟩
   ·exact ⟨d, σ3, by simp only [give, hd, hs], rd, q0⟩
  cases b
  ·simp only [Bool.false_eq_true, if_false] at e
   obtain ⟨d, σ3, g3, r3, k3⟩ := gv ((l1 _).sat k2)
   obtain ⟨es, zs, σ4, g4, r4, z4, k4⟩ := bc_ok hx ht l1 he l2 h2 k3 e
   exact ⟨es, d :: zs, σ4, by simp only [bComp, g2, bind_some, Bool.false_eq_true, if_false, g3, g4, map_some], r4, .cons r3 z4, k4⟩
  ·simp only [if_true] at e
   obtain ⟨⟨v, s2⟩, e2, e⟩ := bd e
   obtain ⟨⟨w, s3⟩, e3, e⟩ := mp e
   cases e
   obtain ⟨dv, σ3, g3, r3, k3⟩ := he _ s1 σ2 v s2 k2 e2
   obtain ⟨d, σ4, g4, r4, k4⟩ := gv ((l2 _).sat k3)
   obtain ⟨es, zs, σ5, g5, r5, z5, k5⟩ := bc_ok hx ht l1 he l2 h2 k4 e3
   exact ⟨dv :: es, d :: zs, σ5, by simp only [bComp, g2, bind_some, if_true, g3, g4, g5, map_some], .cons r3 r5, .cons r4 z5, k5⟩
theorem je_lcB {i x : Nat} {get : S → List α} [DecidableEq α] {r r' : Rl α} {re : Rl β} {ft : α → S → Option (Bool × S)} {fe : α → S → Option (β × S)} {Γt Γe : α → Shp S} (hi : Γ[i]? = some (some ⟨get, rL r⟩)) (hx : x = (Γ.set i none).length) (ht : ∀ x, JT (Γ.set i none ++ [some ⟨fun _ => x, r⟩]) t (ft x) (Γt x)) (he : ∀ x, JE (Γt x) c (fe x) re (Γe x)) (l1 : ∀ x, Le (Γt x) (Γ.set i none ++ [some ⟨fun _ => x, r'⟩]) := by intro _; repeat (first | exact Le.nil | refine Le.som inferInstance ?_ | refine Le.non ?_)) (l2 : ∀ x, Le (Γe x) (Γ.set i none ++ [some ⟨fun _ => x, r'⟩]) := by intro _; repeat (first | exact Le.nil | refine Le.som inferInstance ?_ | refine Le.non ?_)) :
  JE Γ (dLcB i x t c) (fun s => if szC ((get s).length) = true then (tLc ft fe (get s) s).bind fun q => if get q.2 = get s then some q else none else none) (rL re) (Γ.set i (some ⟨get, rL r'⟩)) := fun s σ v s' hs e => by
 dsimp only at e
 split at e
 ·rename_i hl
  have hl := szC_le hl
  obtain ⟨⟨ys, s1⟩, e1, e⟩ := bd e
  dsimp only at e
  split at e
  ·rename_i hgt
   cases e
   obtain ⟨d, hd, ds, rfl, h2⟩ := hs.get hi
   have h0 : Sat (Γ.set i none ++ [none]) s (σ.set i none ++ [none]) := (hs.setn).app ⟨trivial, trivial⟩
   obtain ⟨es, zs, σ2, g2, r2, z2, k2⟩ := bc_ok hx ht l1 he l2 h2 h0 e1
   obtain ⟨σa, σb, rfl, ka, kb⟩ := k2.split
   have hl2 : ds.length ≤ sizeLine := by rw [← h2.len]; exact hl
   have hlen : σ.length = σa.length := by rw [hs.len, ka.len, List.length_set]
   have k3 := ka.set (i := i) (l := some ⟨get, rL r'⟩) (o := some (.lst true zs)) ⟨_, rfl, zs, rfl, by show All2 r' (get s') zs; rw [hgt]; exact z2⟩
   rw [List.set_set] at k3
   exact ⟨_, _, by simp only [dLcB, hd, hl2, if_true, g2, map_some, hlen, List.take_left], ⟨es, rfl, r2⟩, k3⟩
  ·cases e
 ·cases e
noncomputable def Pn : Unit → List D → Prop := fun _ ds => ds = []
noncomputable def Pc (r : Rl α) (P : β → List D → Prop) : α × β → List D → Prop := fun p ds => ∃ d ds', ds = d :: ds' ∧ r p.1 d ∧ P p.2 ds'
noncomputable def JF {P : Type} (g : GF) (h : P → Option (ρ × P)) (PI : P → List D → Prop) (ro : Rl ρ) (PO : P → List D → Prop) : Prop := ∀ p ds v q, PI p ds → h p = some (v, q) → ∃ d ds', g ds = some (d, ds') ∧ ro v d ∧ PO q ds'
noncomputable def JA1 {A : Type} (Γ : Shp S) (as : List DD.Arg) (f : S → Option (A × S)) (oe : A → List (Option D) → Prop) (Γ' : Shp S) : Prop := ∀ s σ a s', Sat Γ s σ → f s = some (a, s') → ∃ os σ', evM as σ = some (os, σ') ∧ oe a os ∧ Sat Γ' s' σ'
noncomputable def o0 : Unit → List (Option D) → Prop := fun _ os => os = []
noncomputable def oB {A : Type} (oe : A → List (Option D) → Prop) : A → List (Option D) → Prop := fun a os => ∃ o', os = none :: o' ∧ oe a o'
noncomputable def oX {A : Type} (r : Rl α) (oe : A → List (Option D) → Prop) : α × A → List (Option D) → Prop := fun a os => ∃ d o', os = some d :: o' ∧ r a.1 d ∧ oe a.2 o'
theorem ja1_nil : JA1 Γ [] (fun s => some ((), s)) o0 Γ := fun s σ a s' hs e => by cases e; exact ⟨[], σ, rfl, rfl, hs⟩
theorem ja1_bo {A : Type} (i : Nat) {as : List DD.Arg} {f : S → Option (A × S)} {oe : A → List (Option D) → Prop} {l : Sl S} (hi : Γ[i]? = some (some l)) (h : JA1 Γ as f oe Γ') : JA1 Γ (.bo i :: as) f (oB oe) Γ' := fun s σ a s' hs e => by
 obtain ⟨os, σ', h1, h2, h3⟩ := h s σ a s' hs e
 obtain ⟨d, hd, _⟩ := hs.get hi
 exact ⟨none :: os, σ', by simp only [evM, hd, bind_some, h1, map_some], ⟨os, rfl, h2⟩, h3⟩
theorem ja1_ex {A : Type} {as : List DD.Arg} {f1 : S → Option (α × S)} {f : S → Option (A × S)} {oe : A → List (Option D) → Prop} {r : Rl α} (h0 : JE Γ c f1 r Γ1) (h : JA1 Γ1 as f oe Γ') : JA1 Γ (.ex c :: as) (fun s => (f1 s).bind fun p => (f p.2).map fun q => ((p.1, q.1), q.2)) (oX r oe) Γ' := fun s σ a s' hs e => by
 obtain ⟨⟨v, s1⟩, e1, e⟩ := bd e
 obtain ⟨⟨b, s2⟩, e2, e⟩ := mp e
 cases e
 obtain ⟨d, σ1, g1, r1, k1⟩ := h0 s σ v s1 hs e1
 obtain ⟨os, σ', h1, h2, h3⟩ := h s1 σ1 b s2 k1 e2
 exact ⟨some d :: os, σ', by simp only [evM, g1, bind_some, h1, map_some], ⟨d, os, rfl, r1, h2⟩, h3⟩
noncomputable def JA2 {A P : Type} (Γ : Shp S) (as : List DD.Arg) (oe : A → List (Option D) → Prop) (pk : A → S → P) (PI : P → List D → Prop) (Γ' : Shp S) : Prop := ∀ s σ a os, Sat Γ s σ → oe a os → ∃ ds σ', fillM as os σ = some (ds, σ') ∧ PI (pk a s) ds ∧ Sat Γ' s σ'
theorem ja2_nil : JA2 Γ [] o0 (fun _ _ => ()) Pn Γ := fun s σ a os hs e => by cases e; exact ⟨[], σ, rfl, rfl, hs⟩
theorem ja2_sc {A P : Type} (i : Nat) {as : List DD.Arg} {oe : A → List (Option D) → Prop} {pk : A → S → P} {PI : P → List D → Prop} {get : S → α} {r r' : Rl α} [k : Sc r] [w : Wk r r'] (hi : Γ[i]? = some (some ⟨get, r⟩)) (h : JA2 Γ as oe pk PI Γ') : JA2 Γ (.bo i :: as) (oB oe) (fun a s => (get s, pk a s)) (Pc r' PI) Γ' := fun s σ a os hs hq0 => by
 obtain ⟨o', e, ho⟩ := hq0
 obtain ⟨ds, σ', h1, h2, h3⟩ := h s σ a o' hs ho
 obtain ⟨d, hd, rd⟩ := hs.get hi
 obtain ⟨v, hv⟩ := k.s _ _ rd
 exact ⟨d :: ds, σ', by simp only [e, fillM, hd, bind_some, hv, h1, map_some], ⟨d, ds, rfl, w.w _ _ rd, h2⟩, h3⟩
theorem ja2_ns {A P : Type} (i : Nat) {as : List DD.Arg} {oe : A → List (Option D) → Prop} {pk : A → S → P} {PI : P → List D → Prop} {get : S → α} {r r' : Rl α} [k : Ns r] [w : Wk r r'] (hi : Γ[i]? = some (some ⟨get, r⟩)) (h : JA2 (Γ.set i none) as oe pk PI Γ') : JA2 Γ (.bo i :: as) (oB oe) (fun a s => (get s, pk a s)) (Pc r' PI) Γ' := fun s σ a os hs hq0 => by
 obtain ⟨o', e, ho⟩ := hq0
 obtain ⟨d, hd, rd⟩ := hs.get hi
 obtain ⟨ds, σ', h1, h2, h3⟩ := h s (σ.set i none) a o' hs.setn ho
 have hv := k.s _ _ rd
 exact ⟨d :: ds, σ', by simp only [e, fillM, hd, bind_some, hv, h1, map_some], ⟨d, ds, rfl, w.w _ _ rd, h2⟩, h3⟩
theorem ja2_ex {A P : Type} {as : List DD.Arg} {oe : A → List (Option D) → Prop} {pk : A → S → P} {PI : P → List D → Prop} {r r' : Rl α} [w : Wk r r'] (h : JA2 Γ as oe pk PI Γ') : JA2 Γ (.ex c :: as) (oX r oe) (fun a s => (a.1, pk a.2 s)) (Pc r' PI) Γ' := fun s σ a os hs hq0 => by
 obtain ⟨d, o', e, rd, ho⟩ := hq0
 obtain ⟨ds, σ', h1, h2, h3⟩ := h s σ a.2 o' hs ho
 exact ⟨d :: ds, σ', by simp only [e, fillM, h1, map_some], ⟨d, ds, rfl, w.w _ _ rd, h2⟩, h3⟩
noncomputable def JA3 {P : Type} (Γ : Shp S) (as : List DD.Arg) (PO : P → List D → Prop) (u : S → P → S) (Γ' : Shp S) : Prop := ∀ s σ q ds, Sat Γ s σ → PO q ds → Sat Γ' (u s q) (backM as ds σ)
theorem ja3_nil : JA3 Γ [] Pn (fun s _ => s) Γ := fun s σ q ds hs e => by cases e; exact hs
theorem ja3_sc {P : Type} (i : Nat) {as : List DD.Arg} {PO : P → List D → Prop} {u : S → P → S} {r : Rl α} [k : Sc r] (h : JA3 Γ as PO u Γ') : JA3 Γ (.bo i :: as) (Pc r PO) (fun s q => u s q.2) Γ' := fun s σ q ds hs hq0 => by
 obtain ⟨d, ds', e, rd, hp⟩ := hq0
 obtain ⟨v, hv⟩ := k.s _ _ rd
 simp only [e, backM, hv]
 exact h s σ q.2 ds' hs hp
theorem ja3_ns {P : Type} (i : Nat) {as : List DD.Arg} {PO : P → List D → Prop} {u : S → P → S} {get : S → α} {put : S → α → S} {r : Rl α} [k : Ns r] (hg : ∀ s v, get (put s v) = v := by intro _ _; rfl) (hf : ∀ v, Fr (fun s => put s v) (Γ.set i none) := by intro _; repeat (first | exact Fr.nil | refine Fr.som (fun _ _ h => h) ?_ | refine Fr.non ?_)) (h : JA3 (Γ.set i (some ⟨get, r⟩)) as PO u Γ') : JA3 Γ (.bo i :: as) (Pc r PO) (fun s q => u (put s q.1) q.2) Γ' := fun s σ q ds hs hq0 => by
 obtain ⟨d, ds', e, rd, hp⟩ := hq0
 have hv := k.s _ _ rd
 simp only [e, backM, hv]
 exact h _ _ q.2 ds' (hs.put hg hf rd) hp
theorem ja3_any {P : Type} (i : Nat) {as : List DD.Arg} {PO : P → List D → Prop} {u : S → P → S} {r : Rl α} (h : JA3 (Γ.set i none) as PO u Γ') : JA3 Γ (.bo i :: as) (Pc r PO) (fun s q => u s q.2) Γ' := fun s σ q ds hs hq0 => by
 obtain ⟨d, ds', e, rd, hp⟩ := hq0
 rcases hv : d.sc with _ | w
 ·simp only [e, backM, hv]
  exact h s _ q.2 ds' hs.setn hp
 ·simp only [e, backM, hv]
  exact h s σ q.2 ds' (On.setn hs) hp
theorem ja3_ex {P : Type} {as : List DD.Arg} {PO : P → List D → Prop} {u : S → P → S} {r : Rl α} (h : JA3 Γ as PO u Γ') : JA3 Γ (.ex c :: as) (Pc r PO) (fun s q => u s q.2) Γ' := fun s σ q ds hs hq0 => by
 obtain ⟨d, ds', e, rd, hp⟩ := hq0
 simp only [e, backM]
 exact h s σ q.2 ds' hs hp
theorem je_call {A P : Type} {g : GF} {h : P → Option (ρ × P)} {as : List DD.Arg} {f : S → Option (A × S)} {oe : A → List (Option D) → Prop} {pk : A → S → P} {PI PO : P → List D → Prop} {ro : Rl ρ} {u : S → P → S} (hF : JF g h PI ro PO) (h1 : JA1 Γ as f oe Γ1) (h2 : JA2 Γ1 as oe pk PI Γ2) (h3 : JA3 Γ2 as PO u Γ3) :
  JE Γ (dCall g as) (fun s => (f s).bind fun p => (h (pk p.1 p.2)).map fun q => (q.1, u p.2 q.2)) ro Γ3 := fun s σ v s' hs e => by
 obtain ⟨⟨a, s1⟩, e1, e⟩ := bd e
 obtain ⟨⟨w, q⟩, e2, e⟩ := mp e
 obtain ⟨rfl, rfl⟩ := Prod.mk.inj e
 obtain ⟨os, σ1, g1, r1, k1⟩ := h1 s σ a s1 hs e1
 obtain ⟨ds, σ2, g2, r2, k2⟩ := h2 s1 σ1 a os k1 r1
 obtain ⟨d, ds', g3, r3, k3⟩ := hF _ _ _ _ r2 e2
 exact ⟨d, _, by simp only [dCall, g1, bind_some, g2, g3, map_some], r3, h3 s1 σ2 q ds' k2 k3⟩
end
section
variable {S : Type} {α β γ δ ρ : Type} {P Q : Type}
noncomputable def JI0 (W : List Nat) (k : Nat) (PI : P → List D → Prop) (Γ : Shp Q) (pr : P → Q) : Prop := ∀ p ds, PI p ds → Sat Γ (pr p) ((inD W k ds).map some) ∧ ds.length = Γ.length
theorem jin_nil {W : List Nat} {k : Nat} {pr : Unit → Q} : JI0 W k Pn ([] : Shp Q) pr := fun p ds h => by cases h; exact ⟨trivial, rfl⟩
theorem jin_cons {W : List Nat} {k : Nat} {PI : P → List D → Prop} {Γ : Shp Q} {r : Rl α} {get : Q → α} {pr : α × P → Q} (hk : k ∉ W) (h0 : ∀ p, get (pr p) = p.1) (h : ∀ a, JI0 W (k + 1) PI Γ (fun p => pr (a, p))) : JI0 W k (Pc r PI) (some ⟨get, r⟩ :: Γ) pr := fun p ds hq0 => by
 obtain ⟨d, ds', e, rd, hp⟩ := hq0
 obtain ⟨h1, h2⟩ := h p.1 p.2 ds' hp
 refine ⟨?_, by simp [e, h2]⟩
 simp only [e, inD, hk, if_false, List.map_cons]
 exact ⟨⟨d, rfl, by rw [show (Sl.mk get r).get = get from rfl, h0]; exact rd⟩, h1⟩
noncomputable def JO0 (W : List Nat) (k : Nat) (PI : P → List D → Prop) (Γr : Shp S) (fin : P → S → P) (PO : P → List D → Prop) : Prop := ∀ p ds s σ, PI p ds → Sat Γr s σ → PO (fin p s) (outD W σ k ds)
theorem jout_nil {W : List Nat} {k : Nat} {Γr : Shp S} : JO0 W k Pn Γr (fun p _ => p) Pn := fun p ds s σ h _ => by cases h; rfl
theorem jout_keep {W : List Nat} {k : Nat} {PI PO : P → List D → Prop} {Γr : Shp S} {fin : P → S → P} {r q : Rl α} {get : S → α} (hk : k ∉ W) (hi : Γr[k]? = some (some ⟨get, q⟩)) (h : JO0 W (k + 1) PI Γr fin PO) : JO0 W k (Pc r PI) Γr (fun p s => (get s, fin p.2 s)) (Pc q PO) := fun p ds s σ hq0 hs => by
 obtain ⟨d, ds', e, rd, hp⟩ := hq0
 obtain ⟨d', hd, rd'⟩ := hs.get hi
 exact ⟨d', _, by simp only [e, outD, hk, if_false, hd, Option.getD_some], rd', h p.2 ds' s σ hp hs⟩
theorem jf_rt {N : Nat} {W : List Nat} {c : DS} {Γp Γn Γr : Shp S} {f : S → Option (TR S ρ)} {init : P → S} {fin : P → S → P} {PI PO : P → List D → Prop} {ro : Rl ρ} (hi : JI0 W 0 PI Γp init) (hb : JS (Γp ++ List.replicate (N - Γp.length) none) c f Γn ⟨Γr, ro, []⟩) (ho : JO0 W 0 PI Γr fin PO) :
  JF (gOf N W c) (fun p => (f (init p)).bind fun t => match t with | .rt v s => some (v, fin p s) | _ => none) PI ro PO := fun p ds v q hp e => by
 obtain ⟨t, e1, e⟩ := bd e
 obtain ⟨h1, h2⟩ := hi p ds hp
 have hs := h1.app (Sat.non (s := init p) (k := N - Γp.length) (σ := List.replicate (N - Γp.length) none) (by simp))
 obtain ⟨o, ho1, ro1⟩ := hb _ _ t hs e1
 cases t with
 | rt w s =>
  cases e
  cases o with
  | rt d σ => exact ⟨d, _, by simp only [gOf, h2, ho1, bind_some], ro1.1, ho p ds s σ hp ro1.2⟩
  | _ => exact ro1.elim
 | _ => cases e
end
end TT
namespace TT
open PySem L2 DD
section
variable {S : Type} {α β γ δ ρ : Type} {Γ Γ0 Γ1 Γ2 Γ3 Γ4 Γ' Γn Γh : Shp S} {c c' : DE} {t u : DT} {E : Ex S ρ}
theorem jp_l0 {r : Rl α} : JP Γ (pLst []) (fun _ => some []) (rL r) := fun s σ v hs e => by
 cases e
 exact ⟨.lst true [], by simp only [pLst, evB, bind_some, List.length_nil, Nat.zero_le, if_true], [], rfl, .nil⟩
noncomputable def JPL (Γ : Shp S) (ps : List DP) (f : S → Option (List α)) (r : Rl α) : Prop := ∀ s σ v, Sat Γ s σ → f s = some v → ∃ ds, evB ps σ = some ds ∧ All2 r v ds
theorem jpl_nil {r : Rl α} : JPL Γ [] (fun _ => some []) r := fun s σ v hs e => by cases e; exact ⟨[], rfl, .nil⟩
theorem jpl_cons {r : Rl α} {p : DP} {ps : List DP} {f : S → Option α} {g : S → Option (List α)} (h : JP Γ p f r) (k : JPL Γ ps g r) : JPL Γ (p :: ps) (fun s => (f s).bind fun a => (g s).map fun as => a :: as) r := fun s σ v hs e => by
 obtain ⟨a, e1, e⟩ := bd e
 obtain ⟨as, e2, e⟩ := mp e
 cases e
 obtain ⟨d, h1, h2⟩ := h s σ a hs e1
 obtain ⟨ds, h3, h4⟩ := k s σ as hs e2
 exact ⟨d :: ds, by simp only [evB, h1, h3, bind_some, map_some], .cons h2 h4⟩
theorem jp_lst {r : Rl α} {ps : List DP} {f : S → Option (List α)} (h : JPL Γ ps f r) : JP Γ (pLst ps) (fun s => (f s).bind fun xs => if szC (xs.length) = true then some xs else none) (rL r) := fun s σ v hs e => by
 obtain ⟨a, e1, e⟩ := bd e
 obtain ⟨ds, h3, h4⟩ := h s σ a hs e1
 split at e
 ·rename_i hl
  have hl := szC_le hl
  cases e
  exact ⟨.lst true ds, by simp only [pLst, h3, bind_some, ← h4.len, hl, if_true], ds, rfl, h4⟩
 ·cases e
noncomputable def Ln (R : Rl α) (k : Int) (π : α → β) (up : α → β → α) (q : Rl β) : Prop := ∀ a d, R a d → ∃ x, getP d [k] = some x ∧ q (π a) x ∧ ∀ v y, q v y → R (up a v) (setP d [k] y)
theorem ln20 {r : Rl α} {q : Rl β} : Ln (rT2 r q) 0 (fun p => p.1) (fun p v => (v, p.2)) r := fun _ _ ⟨x, y, e, h1, h2⟩ => ⟨x, by rw [e]; rfl, h1, fun v z hz => ⟨z, y, by rw [e]; rfl, hz, h2⟩⟩
instance {r : Rl α} {q : Rl β} [k : Py r] [l : Py q] : Py (rT2 r q) := ⟨fun p => .tuple [Py.pe r p.1, Py.pe q p.2], fun p => Py.ok r p.1 && Py.ok q p.2, max (Py.k r) (Py.k q) + 1,
 fun a d hq0 => by obtain ⟨x, y, e, h1, h2⟩ := hq0; rw [e]; simp only [D.py, D.pyL, k.py _ _ h1, l.py _ _ h2, bind_some, map_some], fun a h => by
  simp only [Bool.and_eq_true] at h
  simp only [PyData.canLay0, PyData.canLayAll0, k.lay _ h.1, l.lay _ h.2, Bool.and_self], fun a h => by
  simp only [Bool.and_eq_true] at h
  have h1 := k.dep a.1 h.1
  have h2 := l.dep a.2 h.2
  simp only [PyData.depth, PyData.depthAll]; omega⟩
instance {r : Rl α} {q : Rl β} {t : Rl γ} {u : Rl δ} [k : Py r] [l : Py q] [m : Py t] [n : Py u] : Py (rT4 r q t u) := ⟨fun p => .tuple [Py.pe r p.1, Py.pe q p.2.1, Py.pe t p.2.2.1, Py.pe u p.2.2.2], fun p => Py.ok r p.1 && Py.ok q p.2.1 && Py.ok t p.2.2.1 && Py.ok u p.2.2.2, max (max (Py.k r) (Py.k q)) (max (Py.k t) (Py.k u)) + 1,
 fun a d hq0 => by obtain ⟨x, y, z, w, e, h1, h2, h3, h4⟩ := hq0; rw [e]; simp only [D.py, D.pyL, k.py _ _ h1, l.py _ _ h2, m.py _ _ h3, n.py _ _ h4, bind_some, map_some], fun a h => by
  simp only [Bool.and_eq_true] at h
  simp only [PyData.canLay0, PyData.canLayAll0, k.lay _ h.1.1.1, l.lay _ h.1.1.2, m.lay _ h.1.2, n.lay _ h.2, Bool.and_self], fun a h => by
  simp only [Bool.and_eq_true] at h
  have h1 := k.dep a.1 h.1.1.1
  have h2 := l.dep a.2.1 h.1.1.2
  have h3 := m.dep a.2.2.1 h.1.2
  have h4 := n.dep a.2.2.2 h.2
  simp only [PyData.depth, PyData.depthAll]; omega⟩
end
end TT
namespace TT
open PySem L2 DD
section
variable {S : Type} {α β γ δ ρ : Type} {Γ Γ0 Γ1 Γ2 Γ3 Γ4 Γ' Γn Γh : Shp S} {c c' : DE} {t u : DT} {E : Ex S ρ} {P : Type}
end
end TT
namespace TT
open PySem L2 DD
section
variable {S : Type} {α β γ δ ρ : Type} {Γ Γ0 Γ1 Γ2 Γ3 Γ4 Γ' Γn Γh : Shp S} {c c' : DE} {t u : DT} {E : Ex S ρ} {P : Type}
theorem je_extV (i : Nat) {get : S → List α} {put : S → List α → S} {rl : Rl (List α)} {r q : Rl α} [l : Ls rl q] {f : S → Option (List α × S)} (h : JE Γ c f (rL r) Γ1) (h0 : Γ[i]? = some (some ⟨get, rl⟩)) (hi : Γ1[i]? = some (some ⟨get, rL r⟩)) (hg : ∀ s v, get (put s v) = v := by intro _ _; rfl) (hf : ∀ v, Fr (fun s => put s v) (Γ1.set i none) := by intro _; repeat (first | exact Fr.nil | refine Fr.som (fun _ _ h => h) ?_ | refine Fr.non ?_)) :
  JE Γ (dExtV i c) (fun s => (f s).bind fun p => if szC ((get p.2).length + p.1.length) = true then some ((), put p.2 (get p.2 ++ p.1)) else none) rN (Γ1.set i (some ⟨get, rL r⟩)) := fun s σ v s' hs e => by
 obtain ⟨⟨a, s1⟩, e1, e⟩ := bd e
 dsimp only at e
 split at e
 ·rename_i hl
  have hl := szC_le hl
  cases e
  obtain ⟨x, σ1, hx, ⟨xs, rfl, rx⟩, k1⟩ := h s σ a s1 hs e1
  obtain ⟨d0, hd0, h00⟩ := hs.get h0
  obtain ⟨o0, ds0, rfl, _⟩ := l.l _ _ h00
  obtain ⟨d, hd, ds, rfl, h2⟩ := k1.get hi
  exact ⟨.non, _, by simp only [dExtV, hd0, hx, bind_some, hd, ← h2.len, ← rx.len, hl, if_true], rfl, k1.put hg hf ⟨_, rfl, h2.append rx⟩⟩
 ·cases e
class FzI (r : Rl α) : Prop where
 f : ∀ a d, r a d → d.fz = d
instance : FzI rI := ⟨fun _ _ h => by cases h; rfl⟩
instance : FzI rS := ⟨fun _ _ h => by cases h; rfl⟩
instance {r : Rl α} {q : Rl β} [k : FzI r] [l : FzI q] : FzI (rT2 r q) := ⟨fun _ _ hq0 => by obtain ⟨x, y, e, h1, h2⟩ := hq0; rw [e]; simp only [D.fz, D.fzL, k.f _ _ h1, l.f _ _ h2]⟩
instance {r : Rl α} {q : Rl β} {t : Rl γ} {u : Rl δ} [k : FzI r] [l : FzI q] [m : FzI t] [n : FzI u] : FzI (rT4 r q t u) := ⟨fun _ _ hq0 => by obtain ⟨x, y, z, w, e, h1, h2, h3, h4⟩ := hq0; rw [e]; simp only [D.fz, D.fzL, k.f _ _ h1, l.f _ _ h2, m.f _ _ h3, n.f _ _ h4]⟩
noncomputable def asI : PyData → Option Int
 | .int i => some i
 | _ => none
noncomputable def asS : PyData → Option Str
 | .str i => some i
 | _ => none
theorem rP_int {i : Int} {d : D} (h : rP (.int i) d) : d = .int i := by
 obtain ⟨h, _⟩ := h
 cases d <;> simp only [D.py] at h <;> first | (cases h; rfl) | (cases h) | skip
 all_goals (obtain ⟨q, _, e⟩ := mp h; cases e)
theorem rP_str {i : Str} {d : D} (h : rP (.str i) d) : d = .str i := by
 obtain ⟨h, _⟩ := h
 cases d <;> simp only [D.py] at h <;> first | (cases h; rfl) | (cases h) | skip
 all_goals (obtain ⟨q, _, e⟩ := mp h; cases e)
theorem jp_asI {p : DP} {f : S → Option PyData} (h : JP Γ p f rP) : JP Γ p (fun s => (f s).bind asI) rI := fun s σ v hs e => by
 obtain ⟨a, e1, e⟩ := bd e
 obtain ⟨x, hx, rx⟩ := h s σ a hs e1
 cases a <;> simp only [asI] at e <;> cases e
 exact ⟨x, hx, rP_int rx⟩
theorem jp_asS {p : DP} {f : S → Option PyData} (h : JP Γ p f rP) : JP Γ p (fun s => (f s).bind asS) rS := fun s σ v hs e => by
 obtain ⟨a, e1, e⟩ := bd e
 obtain ⟨x, hx, rx⟩ := h s σ a hs e1
 cases a <;> simp only [asS] at e <;> cases e
 exact ⟨x, hx, rP_str rx⟩
theorem pyL_at : ∀ {ds : List D} {ps : List PyData} {k : Nat} {p : PyData}, D.pyL ds = some ps → ps[k]? = some p → ∃ x, ds[k]? = some x ∧ x.py = some p
 | [], _, _, _, e, h => by cases e; simp at h
 | d :: ds, ps, k, p, e, h => by
  simp only [D.pyL] at e
  obtain ⟨q, e1, e⟩ := bd e
  obtain ⟨qs, e2, e⟩ := mp e
  subst e
  cases k with
  | zero => simp at h; subst h; exact ⟨d, rfl, e1⟩
  | succ k => simpa using pyL_at (ds := ds) (k := k) e2 (by simpa using h)
theorem pyL_len : ∀ {ds : List D} {ps : List PyData}, D.pyL ds = some ps → ds.length = ps.length
 | [], _, e => by cases e; rfl
 | d :: ds, ps, e => by
  simp only [D.pyL] at e
  obtain ⟨q, e1, e⟩ := bd e
  obtain ⟨qs, e2, e⟩ := mp e
  subst e
  simp [pyL_len e2]
theorem fzL_at : ∀ {ds : List D} {k : Nat} {x : D}, D.fzL ds = ds → ds[k]? = some x → x.fz = x
 | [], _, _, _, h => by simp at h
 | d :: ds, k, x, e, h => by
  simp only [D.fzL, List.cons.injEq] at e
  cases k with
  | zero => simp at h; subst h; exact e.1
  | succ k => exact fzL_at (ds := ds) (k := k) e.2 (by simpa using h)
noncomputable def pIx (p : PyData) (i : Int) : Option PyData := match p with
 | .tuple xs => atI xs i
 | .list xs => atI xs i
 | _ => none
theorem jo_ixP : JO ixD pIx rP rI rP := fun a b c x y e h1 h2 => by
 cases h2
 obtain ⟨hp, hf⟩ := h1
 unfold pIx at e
 have go : ∀ (ds : List D) (ps : List PyData), D.pyL ds = some ps → D.fzL ds = ds → atI ps b = some c → ∃ z, atI ds b = some z ∧ rP c z := fun ds ps h1 h2 h3 => by
  unfold atI at h3 ⊢
  rw [← pyL_len h1] at h3
  obtain ⟨j, e1, e2⟩ := bd h3
  obtain ⟨z, g1, g2⟩ := pyL_at h1 e2
  exact ⟨z, by rw [e1]; exact g1, g2, fzL_at h2 g1⟩
 cases x with
 | lst o ds =>
  simp only [D.py] at hp
  obtain ⟨ps, e1, e2⟩ := mp hp
  subst e2
  simp only [D.fz, D.lst.injEq] at hf
  obtain ⟨z, g1, g2⟩ := go ds ps e1 hf.2 e
  exact ⟨z, g1, g2⟩
 | tup ds =>
  simp only [D.py] at hp
  obtain ⟨ps, e1, e2⟩ := mp hp
  subst e2
  simp only [D.fz, D.tup.injEq] at hf
  obtain ⟨z, g1, g2⟩ := go ds ps e1 hf e
  exact ⟨z, g1, g2⟩
 | _ => simp only [D.py] at hp <;> cases hp <;> cases e
noncomputable def rQ : Rl PyData := fun p d => rP p d ∧ ∃ xs, d = .tup xs
instance : Fz rQ rQ := ⟨fun _ _ h => by rw [h.1.2]; exact h⟩
instance : Py rQ := ⟨fun p => p, fun p => p.canLay0 && decide (p.depth ≤ 40), 40, fun _ _ h => h.1.1, fun a h => by simp only [Bool.and_eq_true] at h; exact h.1, fun a h => by simp only [Bool.and_eq_true, decide_eq_true_eq] at h; exact h.2⟩
instance : EqR rQ rQ (fun p q => PyData.eqv p q) := ⟨fun _ _ => rfl⟩
instance : Ns rQ := ⟨fun _ _ hq0 => by obtain ⟨_, xs, e⟩ := hq0; rw [e]; rfl⟩
class Tp (r : Rl α) : Prop where
 t : ∀ a d, r a d → ∃ xs, d = .tup xs
instance {r : Rl α} {q : Rl β} : Tp (rT2 r q) := ⟨fun _ _ ⟨_, _, e, _⟩ => ⟨_, e⟩⟩
instance {r : Rl α} {q : Rl β} {t : Rl γ} {u : Rl δ} : Tp (rT4 r q t u) := ⟨fun _ _ ⟨_, _, _, _, e, _⟩ => ⟨_, e⟩⟩
theorem je_cq {r : Rl α} [k : Py r] [l : FzI r] [m : Tp r] {f : S → Option (α × S)} (h : JE Γ c f r Γ1) : JE Γ c (fun s => (f s).map fun p => (Py.pe r p.1, p.2)) rQ Γ1 := fun s σ v s' hs e => by
 obtain ⟨⟨a, s1⟩, e1, e2⟩ := mp e
 obtain ⟨x, σ1, hx, rx, k1⟩ := h s σ a s1 hs e1
 cases e2
 exact ⟨x, σ1, hx, ⟨⟨k.py _ _ rx, l.f _ _ rx⟩, m.t _ _ rx⟩, k1⟩
theorem jo_ixQ : JO ixD pIx rQ rI rP := fun a b c x y e h1 h2 => jo_ixP a b c x y e h1.1 h2
end
end TT
namespace TT
open PySem L2 DD
section
variable {S : Type} {α β γ δ ρ : Type} {Γ Γ0 Γ1 Γ2 Γ3 Γ4 Γ' Γn Γh : Shp S} {c c' : DE} {t u : DT} {E : Ex S ρ} {P : Type}
theorem bls_ok : ∀ {as : List Bool} {ds : List D}, All2 rB as ds → blsOf ds = some as
 | _, _, .nil => rfl
 | _, _, .cons h t => by cases h; simp only [blsOf, bls_ok t, map_some]
theorem jb_all {r : Rl (List Bool)} [l : Ls r rB] : JB1 allD (fun xs : List Bool => some (xs.all id)) r rB := fun a c x e h => by
 obtain ⟨o, ds, e1, hh⟩ := l.l a x h
 subst e1
 cases e
 exact ⟨_, by simp only [allD, bls_ok hh, map_some], rfl⟩
theorem je_listB {rl : Rl (List α)} {r : Rl α} [l : Ls rl r] [k : Sc r] {p : DP} {f : S → Option (List α)} (h : JP Γ p f rl) : JE Γ (dListB p) (fun s => (f s).map fun xs => (xs, s)) (rL r) Γ := fun s σ v s' hs e => by
 obtain ⟨a, e1, e2⟩ := mp e
 cases e2
 obtain ⟨d, hd, rd⟩ := h s σ v hs e1
 obtain ⟨o, ds, rfl, hh⟩ := l.l v d rd
 exact ⟨.lst true ds, σ, by simp only [dListB, hd, bind_some, hh.sc, if_true], ⟨ds, rfl, hh⟩, hs⟩
end
end TT
namespace TT
open PySem DD
variable {S α β γ : Type} {Γ Γ1 Γ2 Γ' : Shp S}
theorem je_clr (i : Nat) {get : S → List α} {put : S → List α → S} {r : Rl α} (hi : Γ[i]? = some (some ⟨get, rL r⟩)) (hg : ∀ s v, get (put s v) = v := by intro _ _; rfl) (hf : ∀ v, Fr (fun s => put s v) (Γ.set i none) := by intro _; repeat (first | exact Fr.nil | refine Fr.som (fun _ _ h => h) ?_ | refine Fr.non ?_)) :
  JE Γ (dClrV i) (fun s => some ((), put s [])) rN (Γ.set i (some ⟨get, rL r⟩)) := fun s σ v s' hs e => by
 cases e
 obtain ⟨d, hd, ds, rfl, h2⟩ := hs.get hi
 exact ⟨.non, _, by simp only [dClrV, hd], rfl, hs.put hg hf ⟨[], rfl, .nil⟩⟩
section
variable {c c' : DE} {t u : DT} {Γh : Shp S} {α β : Type}
theorem je_slB {rl : Rl (List α)} {r : Rl α} [l : Ls rl r] [k : Sc r] {p : DP} {f : S → Option (List α)} {pl ph : Option DP} {gl gh : S → Option (Option Int)} (h1 : JP Γ p f rl) (h2 : JOp Γ pl gl) (h3 : JOp Γ ph gh) :
  JE Γ (dSlB p pl ph) (fun s => (f s).bind fun xs => (gl s).bind fun lo => (gh s).map fun hi => (cutG xs lo hi, s)) (rL r) Γ := fun s σ v s' hs e => by
 obtain ⟨a, e1, e⟩ := bd e
 obtain ⟨lo, e2, e⟩ := bd e
 obtain ⟨hi, e3, e⟩ := mp e
 cases e
 obtain ⟨x, hx, rx⟩ := h1 s σ a hs e1
 obtain ⟨o, ds, rfl, h⟩ := l.l a x rx
 exact ⟨_, σ, by simp only [dSlB, hx, bind_some, h.sc, if_true, h2 s σ lo hs e2, h3 s σ hi hs e3, map_some], ⟨_, rfl, h.cut lo hi⟩, hs⟩
end
end TT
namespace TT
open PySem DD L2
variable {S α β γ : Type} {Γ Γ1 Γ2 Γ' : Shp S} {c c' : DE} {t u : DT}
end TT
namespace TT
open PySem DD L2
variable {S α β γ : Type} {Γ Γ1 : Shp S} {c : DE}
end TT
namespace TT
open PySem L2 DD
section
variable {S : Type} {α β γ δ ρ : Type} {Γ Γ0 Γ1 Γ2 Γ3 Γ4 Γ' Γn Γh : Shp S} {c c' : DE} {t u : DT} {E : Ex S ρ} {P : Type}
noncomputable def two (j : Int) : List Int := (List.range ((j.toNat + 1) / 2)).map fun (k : Nat) => 0 + (k : Int) * 2
noncomputable def TR.upd (f : S → S) : TR S ρ → TR S ρ
 | .nx s => .nx (f s)
 | .bk s => .bk (f s)
 | .ct s => .ct (f s)
 | .rt d s => .rt d (f s)
end
end TT
namespace TT
open PySem L2 DD
section
variable {S : Type} {α β γ δ ρ : Type} {Γ Γ0 Γ1 Γ2 Γ3 Γ4 Γ' Γn Γh : Shp S} {c c' : DE} {t u : DT} {E : Ex S ρ} {P : Type}
end
end TT
namespace TT
open PySem L2 DD
section
variable {S : Type} {α β γ δ ρ : Type} {Γ Γ0 Γ1 Γ2 Γ3 Γ4 Γ' Γn Γh : Shp S} {c c' : DE} {t u : DT} {E : Ex S ρ} {P : Type}
end
end TT
namespace L2
open PySem PySem.Spec PyProof.Rows
section
variable {X : Cx}
end
end L2
namespace DD
open PySem PySem.Spec PyProof.Rows L2
section
variable {X : Cx} {a : Expr} {p : DP} {apos cpos : Pos}
end
end DD
namespace TT
open PySem L2 DD
section
variable {S : Type} {Γ : Shp S}
end
end TT
namespace DD
open PySem PySem.Spec PyProof.Rows L2
section
variable {X : Cx} {b : Expr} {c : DE} {pos npos : Pos}
end
end DD
namespace TT
open PySem DD L2
variable {S α β γ : Type} {Γ Γ1 : Shp S} {c : DE}
end TT
namespace PySem.AutoSeq1
end PySem.AutoSeq1
namespace L2
open PySem PySem.Spec PyProof.Rows
section
variable {X : Cx}
end
end L2
namespace DD
open PySem PySem.Spec PyProof.Rows L2
section
variable {X : Cx} {a b : Expr} {c c' : DE} {pos : Pos}
end
end DD
namespace TT
open PySem L2 DD
section
variable {S : Type} {α β γ δ ρ : Type} {Γ Γ0 Γ1 Γ2 Γ3 Γ4 Γ' Γn Γh : Shp S} {c c' : DE}
end
end TT
namespace TT
open PySem L2 DD
section
variable {S : Type} {α β γ δ ρ : Type} {Γ Γ0 Γ1 Γ2 Γ3 Γ4 Γ' Γn Γh : Shp S} {c c' : DE} {E : Ex S ρ}
end
end TT
namespace TT
open PySem L2 DD
section
variable {S α β ρ : Type}
theorem loop_ix {put : S → α → S} {b : S → Option (TR S ρ)} {I : Nat → S → Prop} {n : Nat} : ∀ {xs : List α} {s : S}, (∀ k s x, xs[k]? = some x → I (n + k) s → ∃ s', b (put s x) = some (.nx s') ∧ I (n + k + 1) s') → I n s → ∃ s', tLoop put b xs s = some (.nx s') ∧ I (n + xs.length) s'
 | [], s, _, h => ⟨s, rfl, h⟩
 | x :: xs, s, hb, h => by
  obtain ⟨s1, e1, h1⟩ := hb 0 s x rfl h
  obtain ⟨s2, e2, h2⟩ := loop_ix (n := n + 1) (I := I) (xs := xs) (fun k s y hy hi => by
   obtain ⟨s', q1, q2⟩ := hb (k + 1) s y (by simpa using hy) (by rw [show n + (k + 1) = n + 1 + k by omega]; exact hi)
   exact ⟨s', q1, by rw [show n + 1 + k + 1 = n + (k + 1) + 1 by omega]; exact q2⟩) h1
  exact ⟨s2, by simp only [tLoop, e1, bind_some, e2], by rw [List.length_cons, show n + (xs.length + 1) = n + 1 + xs.length by omega]; exact h2⟩
theorem lc_map {ft : α → S → Option (Bool × S)} {fe : α → S → Option (β × S)} {s : S} {f : α → β} : ∀ {xs : List α}, (∀ x ∈ xs, ft x s = some (true, s)) → (∀ x ∈ xs, fe x s = some (f x, s)) → tLc ft fe xs s = some (xs.map f, s)
 | [], _, _ => rfl
 | x :: xs, h, k => by
  have ih := lc_map (xs := xs) (fun y hy => h y (by simp [hy])) (fun y hy => k y (by simp [hy]))
  simp only [tLc, h x (by simp), bind_some, if_true, k x (by simp), ih, map_some, List.map_cons]
theorem lc_filter {ft : α → S → Option (Bool × S)} {fe : α → S → Option (β × S)} {s : S} {f : α → β} {p : α → Bool} : ∀ {xs : List α}, (∀ x ∈ xs, ft x s = some (p x, s)) → (∀ x ∈ xs, p x = true → fe x s = some (f x, s)) → tLc ft fe xs s = some ((xs.filter p).map f, s)
 | [], _, _ => rfl
 | x :: xs, h, k => by
  have ih := lc_filter (xs := xs) (fun y hy => h y (by simp [hy])) (fun y hy => k y (by simp [hy]))
  cases hp : p x
  ·simp only [tLc, h x (by simp), bind_some, hp, Bool.false_eq_true, if_false, ih, List.filter_cons, if_false]
  ·simp only [tLc, h x (by simp), bind_some, hp, if_true, k x (by simp) hp, ih, map_some, List.filter_cons, List.map_cons]
theorem lc_inv {ft : α → S → Option (Bool × S)} {fe : α → S → Option (β × S)} {I : S → Prop} {Q : β → Prop} : ∀ {xs : List α} {s : S}, (∀ s x, x ∈ xs → I s → ft x s = some (true, s)) → (∀ s x, x ∈ xs → I s → ∃ y s', fe x s = some (y, s') ∧ I s' ∧ Q y) → I s → ∃ ys s', tLc ft fe xs s = some (ys, s') ∧ I s' ∧ ys.length = xs.length ∧ ∀ y ∈ ys, Q y
 | [], s, _, _, h => ⟨[], s, rfl, h, rfl, fun y hy => by cases hy⟩
 | x :: xs, s, ht, he, h => by
  obtain ⟨y, s1, e1, h1, q1⟩ := he s x (by simp) h
  obtain ⟨ys, s2, e2, h2, l2, q2⟩ := lc_inv (xs := xs) (fun s y hy => ht s y (by simp [hy])) (fun s y hy => he s y (by simp [hy])) h1
  refine ⟨y :: ys, s2, by simp only [tLc, ht s x (by simp) h, bind_some, if_true, e1, e2, map_some], h2, by simp [l2], fun z hz => ?_⟩
  rcases List.mem_cons.mp hz with rfl | hz
  ·exact q1
  ·exact q2 z hz
theorem okI {a b : Int} : (Py.ok rI a && Py.ok rI b && decide (min (Py.k rI) (Py.k rI) ≤ 50)) = true := rfl
theorem okB {a b : Bool} : (Py.ok rB a && Py.ok rB b && decide (min (Py.k rB) (Py.k rB) ≤ 50)) = true := rfl
theorem all_true {xs : List α} : (xs.all fun _ => true) = true := by simp
theorem okLL {a b : List Int} : (Py.ok (rL rI) a && Py.ok (rL rI) b && decide (min (Py.k (rL rI)) (Py.k (rL rI)) ≤ 50)) = true := by
 show ((a.all fun _ => true) && (b.all fun _ => true) && decide (min (0 + 1) (0 + 1) ≤ 50)) = true
 rw [all_true, all_true]; rfl
theorem okML {a b : List Int} : (Py.ok (rM rI) a && Py.ok (rL rI) b && decide (min (Py.k (rM rI)) (Py.k (rL rI)) ≤ 50)) = true := okLL
theorem eqL_self {f : α → α → Bool} (h : ∀ a, f a a = true) : ∀ xs : List α, eqL f xs xs = true
 | [] => rfl
 | x :: xs => by simp only [eqL, h, eqL_self h xs, Bool.and_self]
theorem eqL_nil {f : α → β → Bool} {xs : List α} : eqL f xs [] = xs.isEmpty := by cases xs <;> rfl
theorem ift {c : Bool} {a b : α} (h : c = true) : (if c = true then a else b) = a := if_pos h
theorem szn {n : Nat} (h : n ≤ 1000) : n ≤ sizeLine := Nat.le_of_lt (L2.small1000 h)
theorem szl' {n : Nat} (h : n ≤ 1000) : n < sizeLine := L2.small1000 h
theorem szc {n : Nat} (h : n ≤ 1000) : szC n = true := decide_eq_true (szn h)
theorem ltc {n : Nat} (h : n ≤ 1000) : ltC n = true := decide_eq_true (szl' h)
theorem at_nat {xs : List α} {j : Nat} (h : j < xs.length) : atI xs (j : Int) = some xs[j] := L2.atI_nat (by simp [h])
theorem ixn_nat {n j : Nat} (h : j < n) : ixN n (j : Int) = some j := by
 unfold ixN
 rw [if_pos (by omega), if_pos (by omega)]; simp
theorem rok {z : Int} (h0 : -1000000 ≤ z) (h1 : z ≤ 1000000) : rokC z = true := by
 simp only [rokC, Nat.ble_eq]
 omega
theorem mulc {x y : Int} (h : (-9223372036854775808 ≤ x ∧ x ≤ 9223372036854775808) ∨ (-9223372036854775808 ≤ y ∧ y ≤ 9223372036854775808)) : mulN x y = true := by
 simp only [mulN, Bool.or_eq_true, Nat.ble_eq]; omega
theorem fdvc {x : Int} {y : Int} (h : decide (0 < y ∧ y.natAbs.log2 < 9000) = true) : fdvC x y = true := h
theorem loop_bindE {put : S → α → S} {b : S → Option (TR S ρ)} {xs : List α} {s : S} {γ : Type} {k : TR S ρ → Option γ} {P : S → Prop} (Q : Option γ → Prop) (h : ∃ s', tLoop put b xs s = some (.nx s') ∧ P s') (hk : ∀ s', P s' → Q (k (.nx s'))) : Q ((tLoop put b xs s).bind k) := by
 obtain ⟨a, e, p⟩ := h
 rw [e]; exact hk a p
theorem loop_ixP {put : S → α → S} {b : S → Option (TR S ρ)} {P : S → Prop} {xs : List α} {s : S} (I : Nat → S → Prop) (h0 : I 0 s) (hb : ∀ k s x, xs[k]? = some x → I k s → ∃ s', b (put s x) = some (.nx s') ∧ I (k + 1) s') (hP : ∀ s', I xs.length s' → P s') : ∃ s', tLoop put b xs s = some (.nx s') ∧ P s' := by
 obtain ⟨s', e, h⟩ := loop_ix (n := 0) (I := I) (fun k s x hx hi => by
  rw [Nat.zero_add] at hi ⊢
  exact hb k s x hx hi) h0
 rw [Nat.zero_add] at h
 exact ⟨s', e, hP s' h⟩
theorem holds_of {g : GF} {h : List Int × Unit → Option (Bool × List Int × Unit)} {r : Rl (List Int)} (j : JF g h (Pc (rM rI) Pn) rB (Pc r Pn)) (ht : ∀ ns : List Int, ns.length ≤ 63 → ∃ q, h (ns, ()) = some (true, q)) : ∀ ns : List Int, ns.length ≤ 63 → ∃ d, g [.lst false (ns.map D.int)] = some (.bl true, [d]) := fun ns hl => by
 obtain ⟨q, e⟩ := ht ns hl
 obtain ⟨d, ds', h1, h2, d', ds2, h3, _, h4⟩ := j (ns, ()) [.lst false (ns.map D.int)] true q ⟨_, [], rfl, ⟨false, _, rfl, rI_map ns⟩, rfl⟩ e
 cases h2
 rw [show ds2 = [] from h4] at h3
 exact ⟨d', by rw [h1, h3]⟩
end
end TT
namespace DD
open PySem PySem.Spec PyProof.Rows L2
section
variable {X : Cx} {o : Expr} {i : Nat} {js : List DP} {lo hi : Option Expr} {pl ph : Option DP} {p2 pos : Pos}
end
end DD
namespace TT
open PySem L2 DD
section
variable {S : Type} {α β γ δ ρ : Type} {Γ Γ0 Γ1 Γ2 Γ3 Γ4 Γ' Γn Γh : Shp S} {c c' : DE} {E : Ex S ρ}
end
end TT
namespace L2
open PySem PySem.Spec PyProof.Rows
section
variable {X : Cx}
end
end L2
namespace DD
open PySem PySem.Spec PyProof.Rows L2
section
variable {X : Cx}
end
end DD
namespace TT
open PySem L2 DD
end TT
namespace DD
open PySem PySem.Spec PyProof.Rows L2
section
variable {K : PySem.W.Frag} {F : Addr → Prop} {H : Hp} {σD : DSt} {σ : St} {R : Ro}
end
section
variable {X : Cx} {e : Expr} {c : DE} {apos cpos : Pos} {i : Nat} {js : List DP}
end
end DD
namespace DD
open PySem PySem.Spec PyProof.Rows L2
section
variable {X : Cx} {a b e : Expr} {es : List Expr} {ps : List DP} {c c' : DE} {pos apos cpos : Pos} {i : Nat} {js : List DP} {o : Expr}
end
end DD
namespace TT
open PySem L2 DD
section
variable {S : Type} {α β γ δ ρ : Type} {Γ Γ0 Γ1 Γ2 Γ3 Γ4 Γ' Γn Γh : Shp S} {c c' : DE} {E : Ex S ρ}
end
end TT
namespace TT
open PySem L2 DD
noncomputable instance decPy : DecidableEq PyData := fun a b => Classical.propDecidable (a = b)
end TT
namespace DD
open PySem PySem.Spec PySem.Calls PyProof.Rows L2 PySem.W PySem.Builtin PySem.Builtin.Str
section
variable {prog : Program} {w : World} {A : Around} {E : Value → Shared → Prop} {s : Shared}
theorem call_str_of {T idr : String} {v : Value} {Q : Value → Shared → Prop} (hv : isExactStr v = false) (hu : A.in1.in1.units + 1 < cLine) (hT : s.TypeIs v T)
  (slotStr : Slot T "__str__" "object.__str__") (slotRepr : SlotG T "__repr__" idr)
  (h : wpAny (model prog w) A.in1.in1.in1 (call (.builtin idr) [v]) (fun r s₁ => ∃ x t, r = .str x t ∧ Q r s₁) E s) : wpAny (model prog w) A (call (.type "str") [v]) Q E s := by
 refine callType_codes (T := "str") (Bi := Builtin.«object.__init__») (Q₁ := fun r s₁ => ∃ y u, r = .str y u ∧ Q r s₁) PySem.F.called_str (PySem.F.typeCall_str_1 _) PySem.F.entry_object_init ?_ ?_
 ·refine codeAny_of_tree ?_
  show wpAny _ A.in1.in1 (do checkBuiltinCall "str.__new__" ⟨[.type "str", v], []⟩; again (.builtin "str.__new__" ⟨[.type "str", v], []⟩)) _ _ s
  refine wpAny_bind (wpAny_of_eq (PySem.F.newCall_str_1 _) (wpAny_pure ⟨plainId_quiet (by decide +kernel) _, codeAny_builtin PySem.F.entry_str_new ?_⟩))
  rw [Around.under_plainId (by decide +kernel) _]
  rw [str_new_tree]
  refine wpAny_bind (wpAny_pure ?_)
  refine wpAny_bind (wpAny_of_eq isSubtype_str_str ?_)
  refine wpAny_bind (wpAny_mono (wpAny_strOf_slot hv hu hT slotStr slotRepr (Q := fun r s₁ => ∃ y u, r = .str y u ∧ Q r s₁) (wpAny_mono h (fun r s₁ hr => ?_) fun _ _ y => y)) (fun r s₁ hr => wpAny_pure hr) fun _ _ y => y)
  obtain ⟨x, t, rfl, hq⟩ := hr
  exact ⟨x, t, rfl, x, t, rfl, hq⟩
 ·rintro obj s₁ ⟨y, u, rfl, hq⟩
  exact ⟨typeIs_str _ _ _, PySem.F.args_object_init_2 _ _, object_init_meets PySem.F.called_str.init.lookup PySem.F.called_str.made (by decide) prog w A.in1 _ s₁ ⟨typeIs_str _ _ _, rfl, hq⟩⟩
end
mutual
noncomputable def rpD : D → Option Str
 | .int i => if i.natAbs.log2 < 1920 then some (toString i : String) else none
 | .str x => if (reprText x).length ≤ sizeLine then some (reprText x) else none
 | .bl b => some (if b then "True" else "False" : String)
 | .non => some "None"
 | .lst _ xs => (rpL xs).map listText
 | .tup xs => (rpL xs).map tupleText
 | _ => none
noncomputable def rpL : List D → Option (List Str)
 | [] => some []
 | x :: xs => (rpD x).bind fun t => (rpL xs).map fun ts => t :: ts
end
mutual
noncomputable def dpD : D → Nat
 | .lst _ xs => dpL xs + 1
 | .tup xs => dpL xs + 1
 | _ => 0
noncomputable def dpL : List D → Nat
 | [] => 0
 | x :: xs => max (dpD x) (dpL xs)
end
section
variable {X : Cx} {pins : List (Addr × Obj)} {σ : St} {H : Hp} {s : Shared} {F : Addr → Prop}
theorem rpL_some {x : D} {xs : List D} (h : (rpL (x :: xs)).isSome = true) : ∃ _ : Unit, (rpD x).isSome = true ∧ (rpL xs).isSome = true := by
 rw [rpL] at h
 rcases e : rpD x with _ | t
 ·rw [e] at h; cases h
 ·rw [e] at h
  simp only [bind_some, Option.isSome_map] at h
  exact ⟨(), rfl, h⟩
theorem sq_lt {a : Addr} {xs ys : List V} (I : Inv X pins σ H s) (h : SqL X.K H a xs) (h' : SqT X.K H a ys) : False := by
 obtain ⟨its, r, ⟨o, n, e, c, _⟩, _⟩ := I.list h
 obtain ⟨its', r', ⟨o', e', c', _⟩, _⟩ := I.tuple h'
 rw [e] at e'; cases e'
 rw [c] at c'; exact absurd c' (by decide)
theorem bor_sc {d : D} {v : V} (b : Bor X.K F H d v) (h : (rpD d).isSome = true) : (∃ a, v = .ref a ∧ ((∃ o xs, d = .lst o xs) ∨ ∃ xs, d = .tup xs)) ∨ ((∀ a, v ≠ .ref a) ∧ dpD d = 0) := by
 obtain ⟨L, o⟩ := b
 cases d with
 | lst o' xs =>
  obtain ⟨a, vs, rfl, _⟩ := Bor.lst ⟨L, o⟩
  exact .inl ⟨a, rfl, .inl ⟨_, _, rfl⟩⟩
 | tup xs =>
  obtain ⟨a, vs, rfl, _⟩ := Bor.tup ⟨L, o⟩
  exact .inl ⟨a, rfl, .inr ⟨_, rfl⟩⟩
 | int i => simp only [Ow] at o; obtain ⟨rfl, _⟩ := o; exact .inr ⟨fun a => nofun, rfl⟩
 | str i => simp only [Ow] at o; obtain ⟨rfl, _⟩ := o; exact .inr ⟨fun a => nofun, rfl⟩
 | bl i => simp only [Ow] at o; obtain ⟨rfl, _⟩ := o; exact .inr ⟨fun a => nofun, rfl⟩
 | non => simp only [Ow] at o; obtain ⟨rfl, _⟩ := o; exact .inr ⟨fun a => nofun, rfl⟩
 | _ => simp [rpD] at h
theorem sc_dp {d d' : D} {v : V} (b : Bor X.K F H d v) (b' : Bor X.K F H d' v) (h : (rpD d).isSome = true) (h' : (rpD d').isSome = true) (h0 : dpD d = 0) (h1 : ∀ o xs, d ≠ .lst o xs) (h2 : ∀ xs, d ≠ .tup xs) : dpD d = dpD d' := by
 rcases bor_sc b h with ⟨a, rfl, ⟨o, xs, e⟩ | ⟨xs, e⟩⟩ | ⟨z, _⟩
 ·exact absurd e (h1 _ _)
 ·exact absurd e (h2 _)
 ·rcases bor_sc b' h' with ⟨a, rfl, _⟩ | ⟨_, z'⟩
  ·exact absurd rfl (z a)
  ·rw [h0, z']
mutual
theorem dp_uniq (I : Inv X pins σ H s) : ∀ (d d' : D) (v : V), Bor X.K F H d v → Bor X.K F H d' v → (rpD d).isSome = true → (rpD d').isSome = true → dpD d = dpD d'
 | .lst o xs, d', v, b, b', h, h' => by
  obtain ⟨a, vs, rfl, sq, L, ol⟩ := b.lst
  rcases bor_sc b' h' with ⟨a', e, ⟨o', ys, rfl⟩ | ⟨ys, rfl⟩⟩ | ⟨z, _⟩
  ·obtain ⟨a'', vs', e2, sq', L', ol'⟩ := b'.lst
   cases e2
   cases I.list_inj sq sq'
   simp only [rpD, Option.isSome_map] at h h'
   simp only [dpD, dpL_uniq I xs ys vs L L' ol ol' h h']
  ·obtain ⟨a'', vs', e2, sq', L', ol'⟩ := b'.tup
   cases e2
   exact (sq_lt I sq sq').elim
  ·exact absurd rfl (z a)
 | .tup xs, d', v, b, b', h, h' => by
  obtain ⟨a, vs, rfl, sq, L, ol⟩ := b.tup
  rcases bor_sc b' h' with ⟨a', e, ⟨o', ys, rfl⟩ | ⟨ys, rfl⟩⟩ | ⟨z, _⟩
  ·obtain ⟨a'', vs', e2, sq', L', ol'⟩ := b'.lst
   cases e2
   exact (sq_lt I sq' sq).elim
  ·obtain ⟨a'', vs', e2, sq', L', ol'⟩ := b'.tup
   cases e2
   cases I.tuple_inj sq sq'
   simp only [rpD, Option.isSome_map] at h h'
   simp only [dpD, dpL_uniq I xs ys vs L L' ol ol' h h']
  ·exact absurd rfl (z a)
 | .int i, d', v, b, b', h, h' => sc_dp b b' h h' rfl (fun _ _ => nofun) fun _ => nofun
 | .str i, d', v, b, b', h, h' => sc_dp b b' h h' rfl (fun _ _ => nofun) fun _ => nofun
 | .bl i, d', v, b, b', h, h' => sc_dp b b' h h' rfl (fun _ _ => nofun) fun _ => nofun
 | .non, d', v, b, b', h, h' => sc_dp b b' h h' rfl (fun _ _ => nofun) fun _ => nofun
 | .hole, _, _, _, _, h, _ => by simp [rpD] at h
 | .cell, _, _, _, _, h, _ => by simp [rpD] at h
 | .node _ _, _, _, _, _, h, _ => by simp [rpD] at h
 | .ty _, _, _, _, _, h, _ => by simp [rpD] at h
 | .cls _, _, _, _, _, h, _ => by simp [rpD] at h
 | .obj _ _ _ _, _, _, _, _, h, _ => by simp [rpD] at h
 | .dct _ _ _, _, _, _, _, h, _ => by simp [rpD] at h
theorem dpL_uniq (I : Inv X pins σ H s) : ∀ (xs ys : List D) (vs : List V) (L L' : List Addr), OwL X.K F H xs vs L → OwL X.K F H ys vs L' → (rpL xs).isSome = true → (rpL ys).isSome = true → dpL xs = dpL ys
 | [], ys, vs, L, L', o, o', _, _ => by
  cases ys with
  | nil => rfl
  | cons y ys =>
   simp only [OwL] at o o'
   obtain ⟨rfl, _⟩ := o
   obtain ⟨_, _, _, _, e, _⟩ := o'
   cases e
 | x :: xs, ys, vs, L, L', o, o', h, h' => by
  cases ys with
  | nil =>
   simp only [OwL] at o o'
   obtain ⟨rfl, _⟩ := o'
   obtain ⟨_, _, _, _, e, _⟩ := o
   cases e
  | cons y ys =>
   simp only [OwL] at o o'
   obtain ⟨v, ws, L1, L2, rfl, o1, o2, _⟩ := o
   obtain ⟨v', ws', L1', L2', e, o1', o2', _⟩ := o'
   cases e
   obtain ⟨t, ht, hts⟩ := rpL_some h
   obtain ⟨t', ht', hts'⟩ := rpL_some h'
   simp only [dpL, dp_uniq I x y v ⟨_, o1⟩ ⟨_, o1'⟩ ht ht', dpL_uniq I xs ys ws L2 L2' o2 o2' hts hts']
end
theorem allK_get {prog : Program} {w : World} {as : List Addr} {h : Heap} {d : Nat} : ∀ {l : List Value} {ts : List Str}, ReprAllK prog w as h d l ts → ∀ (i : Nat) (y : Value), l[i]? = some y → ∃ t, ts[i]? = some t ∧ ReprK prog w as h d y t
 | _, _, .nil, i, y, e => by simp at e
 | _, _, .cons r _, 0, y, e => by simp at e; subst e; exact ⟨_, rfl, r⟩
 | _, _, .cons _ rs, i + 1, y, e => by simpa using allK_get rs i y (by simpa using e)
theorem allK_more {prog : Program} {w : World} {as as' : List Addr} {h : Heap} {d d' : Nat} (hs : ∀ b ∈ as, b ∈ as') (hd : d ≤ d') : ∀ {l : List Value} {ts : List Str}, ReprAllK prog w as h d l ts → ReprAllK prog w as' h d' l ts
 | _, _, .nil => .nil
 | _, _, .cons r rs => .cons ((r.more hs).level_le hd) (allK_more hs hd rs)
mutual
theorem rep_k (I : Inv X pins σ H s) : ∀ (d : D) (v : V) (u : Value) (t : Str), Bor X.K F H d v → RelV v u → rpD d = some t →
  ∃ as : List Addr, (∀ b ∈ as, ∃ d', Bor X.K F H d' (.ref b) ∧ (rpD d').isSome = true ∧ dpD d' ≤ dpD d) ∧ ReprK X.prog X.w as s.heap (dpD d) u t
 | .lst o xs, v, u, t, b, r, h => by
  have hsome : (rpD (.lst o xs)).isSome = true := by rw [h]; rfl
  have b0 := b
  obtain ⟨a, vs, rfl, sq, L, ol⟩ := b.lst
  cases r
  rw [rpD] at h
  rcases e : rpL xs with _ | ts
  ·rw [e] at h; cases h
  ·rw [e] at h; cases h
   obtain ⟨its, rv, ⟨oa, n, hg, hc, _, hd⟩, hz⟩ := I.list sq
   obtain ⟨as, ha, hk⟩ := rep_kL I xs vs its ts L ol rv e
   have hna : a ∉ as := by
    intro hm
    obtain ⟨d', b', hs', hle⟩ := ha a hm
    have := dp_uniq I _ _ _ b0 b' hsome hs'
    simp only [dpD] at this
    omega
   refine ⟨a :: as, ?_, ?_⟩
   ·intro c hc
    rcases List.mem_cons.mp hc with rfl | hc
    ·exact ⟨_, b0, hsome, Nat.le_refl _⟩
    ·obtain ⟨d', b', hs', hle⟩ := ha c hc
     exact ⟨d', b', hs', by simp only [dpD]; omega⟩
   ·cases its with
    | nil =>
     have hl := hk.length_eq
     cases ts with
     | nil => exact (ReprK.listEmpty hg hc hd).level_le (Nat.zero_le _)
     | cons => simp at hl
    | cons x l => exact ReprK.list hg hc hd hna (by rw [hk.length_eq]; simp) (fun i y e => allK_get hk i y (by simpa using e))
 | .tup xs, v, u, t, b, r, h => by
  have hsome : (rpD (.tup xs)).isSome = true := by rw [h]; rfl
  have b0 := b
  obtain ⟨a, vs, rfl, sq, L, ol⟩ := b.tup
  cases r
  rw [rpD] at h
  rcases e : rpL xs with _ | ts
  ·rw [e] at h; cases h
  ·rw [e] at h; cases h
   obtain ⟨its, rv, ⟨oa, hg, hc, n, hd⟩, hz⟩ := I.tuple sq
   obtain ⟨as, ha, hk⟩ := rep_kL I xs vs its ts L ol rv e
   have hna : a ∉ as := by
    intro hm
    obtain ⟨d', b', hs', hle⟩ := ha a hm
    have := dp_uniq I _ _ _ b0 b' hsome hs'
    simp only [dpD] at this
    omega
   refine ⟨a :: as, ?_, ?_⟩
   ·intro c hc
    rcases List.mem_cons.mp hc with rfl | hc
    ·exact ⟨_, b0, hsome, Nat.le_refl _⟩
    ·obtain ⟨d', b', hs', hle⟩ := ha c hc
     exact ⟨d', b', hs', by simp only [dpD]; omega⟩
   ·exact ReprK.tuple hg hc hd hna (by simpa using hk)
 | .int i, v, u, t, b, r, h => by
  obtain ⟨L, o⟩ := b; simp only [Ow] at o; obtain ⟨rfl, _⟩ := o
  obtain ⟨tk, rfl⟩ := r
  rw [rpD] at h
  split at h
  ·rename_i hi; cases h; exact ⟨[], (fun _ h => nomatch h), ReprK.of_is (ReprIs.int tk hi) _ _ _⟩
  ·cases h
 | .str x, v, u, t, b, r, h => by
  obtain ⟨L, o⟩ := b; simp only [Ow] at o; obtain ⟨rfl, _⟩ := o
  obtain ⟨tk, rfl⟩ := r
  rw [rpD] at h
  split at h
  ·rename_i hi; cases h; exact ⟨[], (fun _ h => nomatch h), ReprK.of_is (ReprIs.str x tk hi) _ _ _⟩
  ·cases h
 | .bl x, v, u, t, b, r, h => by
  obtain ⟨L, o⟩ := b; simp only [Ow] at o; obtain ⟨rfl, _⟩ := o
  cases r
  rw [rpD] at h; cases h
  exact ⟨[], (fun _ h => nomatch h), by cases x <;> exact ReprK.of_is (ReprIs.bool _) _ _ _⟩
 | .non, v, u, t, b, r, h => by
  obtain ⟨L, o⟩ := b; simp only [Ow] at o; obtain ⟨rfl, _⟩ := o
  cases r
  rw [rpD] at h; cases h
  exact ⟨[], (fun _ h => nomatch h), ReprK.of_is ReprIs.none _ _ _⟩
 | .hole, _, _, _, _, _, h => by simp [rpD] at h
 | .cell, _, _, _, _, _, h => by simp [rpD] at h
 | .node _ _, _, _, _, _, _, h => by simp [rpD] at h
 | .ty _, _, _, _, _, _, h => by simp [rpD] at h
 | .cls _, _, _, _, _, _, h => by simp [rpD] at h
 | .obj _ _ _ _, _, _, _, _, _, h => by simp [rpD] at h
 | .dct _ _ _, _, _, _, _, _, h => by simp [rpD] at h
theorem rep_kL (I : Inv X pins σ H s) : ∀ (xs : List D) (vs : List V) (us : List Value) (ts : List Str) (L : List Addr), OwL X.K F H xs vs L → Vals vs us → rpL xs = some ts →
  ∃ as : List Addr, (∀ b ∈ as, ∃ d', Bor X.K F H d' (.ref b) ∧ (rpD d').isSome = true ∧ dpD d' ≤ dpL xs) ∧ ReprAllK X.prog X.w as s.heap (dpL xs) us ts
 | [], vs, us, ts, L, o, r, h => by
  simp only [OwL] at o
  obtain ⟨rfl, _⟩ := o
  cases r
  rw [rpL] at h; cases h
  exact ⟨[], fun _ h => (nomatch h), .nil⟩
 | x :: xs, vs, us, ts, L, o, r, h => by
  simp only [OwL] at o
  obtain ⟨v, ws, L1, L2, rfl, o1, o2, _⟩ := o
  cases r with
  | cons r1 r2 =>
   rw [rpL] at h
   rcases e1 : rpD x with _ | t
   ·rw [e1] at h; cases h
   ·rcases e2 : rpL xs with _ | ts'
    ·rw [e1, e2] at h; cases h
    ·rw [e1, e2] at h; cases h
     obtain ⟨as1, h1, k1⟩ := rep_k I x v _ t ⟨_, o1⟩ r1 e1
     obtain ⟨as2, h2, k2⟩ := rep_kL I xs ws _ ts' L2 o2 r2 e2
     refine ⟨as1 ++ as2, ?_, .cons ((k1.more fun b hb => by simp [hb]).level_le ?_) (allK_more (fun b hb => by simp [hb]) ?_ k2)⟩
     ·intro b hb
      rcases List.mem_append.mp hb with hb | hb
      ·obtain ⟨d', b', s', l'⟩ := h1 b hb
       exact ⟨d', b', s', by simp only [dpL]; omega⟩
      ·obtain ⟨d', b', s', l'⟩ := h2 b hb
       exact ⟨d', b', s', by simp only [dpL]; omega⟩
     ·simp only [dpL]; omega
     ·simp only [dpL]; omega
end
theorem call_strL (gd : X.A.guards = some []) (hu : X.A.units + 60 < cLine) : CallR X (.type "str") (fun vs H Q => ∃ (F : Addr → Prop) (d : D) (v : V) (o : Bool) (x : D) (xs : List D) (t : Str), vs = [v] ∧ Bor X.K F H d v ∧ d = .lst o (x :: xs) ∧ rpD d = some t ∧ t.length ≤ sizeLine ∧ dpD d ≤ 40 ∧ Q (.str t) H) := by
 rintro pins s σ H vs us Q I rv ⟨F, d, v, o, x, xs, t, rfl, b, rfl, ht, hz, hdp, q⟩
 obtain ⟨u, rfl, ru⟩ := vals1 rv
 have hsome : (rpD (.lst o (x :: xs))).isSome = true := by rw [ht]; rfl
 have b0 := b
 obtain ⟨a, vs, rfl, sq, L, ol⟩ := b.lst
 cases ru
 rw [rpD] at ht
 rcases e : rpL (x :: xs) with _ | ts
 ·rw [e] at ht; cases ht
 ·rw [e] at ht; cases ht
  obtain ⟨its, rv, ⟨oa, n, hg, hc, _, hd⟩, hz'⟩ := I.list sq
  obtain ⟨as, ha, hk⟩ := rep_kL I (x :: xs) vs its ts L ol rv e
  have hna : a ∉ as := by
   intro hm
   obtain ⟨d', b', hs', hle⟩ := ha a hm
   have := dp_uniq I _ _ _ b0 b' hsome hs'
   simp only [dpD] at this
   omega
  have hT : s.TypeIs (.ref a) "list" := ⟨oa, hg, hc⟩
  cases its with
  | nil =>
   cases rv
   simp only [OwL] at ol
   obtain ⟨_, _, _, _, z, _⟩ := ol
   cases z
  | cons y l =>
   refine call_str_of rfl (by show X.A.units + 1 + 1 + 1 < cLine; omega) hT PySem.F.slot_list_str PySem.F.slot_list_repr.toG ?_
   refine call_list_reprK (g := []) hg hc hd hna (by rw [hk.length_eq]; simp) (fun i y e => allK_get hk i y (by simpa using e)) gd (fun b _ => Clear.nil b) (by show X.A.units + 1 + 1 + 1 + (dpL (x :: xs) + 1) < cLine; simp only [dpD] at hdp; omega) (fun _ _ e => e) (fun h' u tk hk' => ?_) hz
   exact ⟨_, _, rfl, .str (listText ts), H, I.kept hk', ⟨_, rfl⟩, q⟩
noncomputable def strLD : List D → Option D
 | [.lst o (x :: xs)] => (rpD (.lst o (x :: xs))).bind fun t => if decide (t.length ≤ sizeLine) && decide (dpD (.lst o (x :: xs)) ≤ 40) then some (.str t) else none
 | _ => none
theorem strLD_some {ds : List D} {d : D} (h : strLD ds = some d) : ∃ o x xs t, ds = [.lst o (x :: xs)] ∧ rpD (.lst o (x :: xs)) = some t ∧ t.length ≤ sizeLine ∧ dpD (.lst o (x :: xs)) ≤ 40 ∧ d = .str t := by
 unfold strLD at h
 split at h
 ·rename_i o x xs
  rcases h2 : rpD (.lst o (x :: xs)) with _ | t
  ·rw [h2] at h; cases h
  ·rw [h2] at h; simp only [bind_some] at h
   split at h
   ·rename_i hs
    simp only [Bool.and_eq_true, decide_eq_true_eq] at hs
    cases h
    exact ⟨o, x, xs, t, rfl, h2, hs.1, hs.2, rfl⟩
   ·cases h
 ·cases h
theorem c_strL (gd : X.A.guards = some []) (hu : X.A.units + 60 < cLine) : CallS X (.type "str") strLD := by
 refine ⟨CallR_imp (call_strL gd hu) fun vs H Q ⟨F, ds, d, w, b, eg, hw, q⟩ => ?_, fun ds d h => ?_⟩
 ·obtain ⟨o, x, xs, t, rfl, h1, h2, h3, rfl⟩ := strLD_some eg
  cases hw
  obtain ⟨v, rfl, bv⟩ := b.one
  exact ⟨F, _, v, o, x, xs, t, rfl, bv, rfl, h1, h2, h3, q⟩
 ·obtain ⟨o, x, xs, t, rfl, h1, h2, h3, rfl⟩ := strLD_some h
  exact ⟨_, rfl⟩
end
end DD
namespace L2
open PySem PySem.Spec PyProof.Rows
section
variable {X : Cx}
theorem op_ne_str : OpR X (compareOp .NotEq) (fun x y H Q => ∃ i j, x = .str i ∧ y = .str j ∧ Q (.bl (i != j)) H) := by
 intro pins s σ H x y v u Q I rx ry h
 obtain ⟨i, j, rfl, rfl, q⟩ := h
 obtain ⟨t, rfl⟩ := rx
 obtain ⟨t', rfl⟩ := ry
 exact ne_str (fin_bl I q rfl)
end
end L2
namespace DD
open PySem PySem.Spec PyProof.Rows L2
noncomputable def gNeS : D → D → Option D
 | .str x, .str y => some (.bl (x != y))
 | _, _ => none
section
variable {X : Cx}
theorem o_neS : OpS X (compareOp .NotEq) gNeS := by
 refine ⟨OpR_imp op_ne_str fun x y H Q hq => ?_, fun x y d h => ?_⟩
 ·obtain ⟨F, dx, dy, d, w, b1, b2, eg, hw, q⟩ := hq
  unfold gNeS at eg
  split at eg
  ·cases eg; cases hw
   exact ⟨_, _, b1.sc rfl, b2.sc rfl, q⟩
  ·cases eg
 ·unfold gNeS at h
  split at h
  ·cases h; exact ⟨_, rfl⟩
  ·cases h
end
end DD
namespace DD
open PySem PySem.Spec PyProof.Rows L2
section
variable {X : Cx} {elt : Expr} {ifs : List Expr} {t : DT} {c : DE} {pos : Pos} {scope : Scope}
theorem lcB_s (ix i x : Nat) (N' : List Str) {xn yn y : Str} {npos tpos py spos : Pos} (hND : X.N.Nodup) (hnd : N'.Nodup) (ht : ∀ cl s H fp pins, QIf (cyOf X N' scope cl s H fp pins) ifs t)
  (he : ∀ cl s H fp pins, QE (cyOf X N' scope cl s H fp pins) elt c) (hk : N'.length - X.N.length = 1 := by rfl) (hx : x = X.N.length := by rfl) (hc : X.calm = true := by rfl) (hkd : scope.kind = .function := by rfl) (T : cyChk X.N N' scope.names X.env.kindOf = true := by rfl) (hs : ∀ y, foldedSetIterable (.Name xn npos) X.env y = pure y := by intro _; rfl)
  (hN : X.N[i]? = some xn := by rfl) (hv : Vis X.env.scope xn := by first | exact Or.inl rfl | exact Or.inr (Or.inl rfl) | exact Or.inr (Or.inr rfl)) (hd : (xn == ("__debug__" : Str)) = false := by decide) (hcd : (xn == ("__classdict__" : Str)) = false := by decide)
  (hNx : N'[x]? = some yn := by rfl) (hl : Loc (relabel scope X.env) yn := by first | exact Or.inl rfl | exact Or.inr rfl) (hfn : (scope.names.lookup yn == some .cell) = true ∨ (relabel scope X.env).names.lookup yn = some .local := by first | exact .inl rfl | exact .inr rfl)
  (hsw : swapsWith (.ListComp elt [⟨.Name yn tpos, .Name xn npos, ifs, 0⟩] scope pos) (some (.Name y py)) spos.line X.env = pure true := by rfl)
  (hiN : X.N[ix]? = some y := by rfl) (hlx : Loc X.env.scope y := by first | exact Or.inl rfl | exact Or.inr rfl) (hf : X.fn y = true ∨ X.env.scope.names.lookup y = some .local := by first | exact .inl rfl | exact .inr rfl | assumption) :
  QS X (.Assign [.Name y py] (.ListComp elt [⟨.Name yn tpos, .Name xn npos, ifs, 0⟩] scope pos) spos) (sSet ix (dLcB i x t c)) [ix] := by
 rintro pins s σ H En I ⟨F, R, σD, o, r, ec, k⟩
 have hlen : σ.length = X.N.length := I.len
 have hg : ∀ cl s H fp pins, PG (cyOf X N' scope cl s H fp pins) (.Name yn tpos) (gName x) := fun cl s H fp pins => pg_name hnd hNx hl hfn
 refine ps_set_lc (X := X) (N' := N') (g := gName x) (tt := rT X.K t) (te := rE X.K c) hND hiN hlx hsw hc (cy_of hkd T) (pi_list (pe_var hN hv hd hcd)) hg ht he hs hf pins s σ H En I ?_
 unfold sSet at ec
 rcases h0 : dLcB i x t c σD with _ | ⟨d0, σ0⟩
 ·rw [h0] at ec; cases ec
 ·rw [h0] at ec; simp only [bind_some] at ec
  split at ec
  ·rename_i hlt
   cases ec
   unfold dLcB at h0
   split at h0
   ·rename_i xs h1
    split at h0
    ·rename_i hz
     rcases hB : bComp x t c xs (σD.set i none ++ [none]) with _ | ⟨ys, items, σE⟩
     ·rw [hB] at h0; cases h0
     ·rw [hB] at h0; cases h0
      obtain ⟨v0, hv0, r0⟩ := r.take (dget_some h1)
      obtain ⟨a, vs, rfl, ha, hl2, r1⟩ := r0.openN
      refine ⟨_, hv0, a, rfl, ⟨vs, .inl (.inl ha)⟩, fun p hp => ?_⟩
      rw [hk]
      refine lcB_go (X := X) (Q := fun x H1 => gName ix x σ H1 En.nx) (by rw [hlen, hx]) hl2 r1 hz hB (fun F2 H2 v x2 r2 => ?_) p hp
      rw [List.length_set] at r2
      have r3 := r2.put hv0
      exact k F2 H2 _ x2 Kp.set (r3.store (by rw [← r3.mt.length]; exact hlt))
    ·cases h0
   ·cases h0
  ·cases ec
end
end DD
namespace TT
open PySem L2 DD
mutual
noncomputable def smP : PyData → PyData → Bool
 | .int i, .int j => i == j
 | .str x, .str y => x == y
 | .list xs, .list ys => smL xs ys
 | .tuple xs, .tuple ys => smL xs ys
 | _, _ => false
noncomputable def smL : List PyData → List PyData → Bool
 | [], [] => true
 | x :: xs, y :: ys => smP x y && smL xs ys
 | _, _ => false
end
mutual
theorem smP_eq : ∀ {p q : PyData}, smP p q = true → p = q
 | .int i, q, h => by cases q <;> simp only [smP, Bool.false_eq_true] at h; rw [eq_of_beq h]
 | .str x, q, h => by cases q <;> simp only [smP, Bool.false_eq_true] at h; rw [eq_of_beq h]
 | .list xs, q, h => by cases q <;> simp only [smP, Bool.false_eq_true] at h; rw [smL_eq h]
 | .tuple xs, q, h => by cases q <;> simp only [smP, Bool.false_eq_true] at h; rw [smL_eq h]
 | .none, q, h => by cases q <;> simp [smP] at h
 | .bool _, q, h => by cases q <;> simp [smP] at h
 | .dict _, q, h => by cases q <;> simp [smP] at h
theorem smL_eq : ∀ {xs ys : List PyData}, smL xs ys = true → xs = ys
 | [], [], _ => rfl
 | [], _ :: _, h => by simp [smL] at h
 | _ :: _, [], h => by simp [smL] at h
 | x :: xs, y :: ys, h => by
  simp only [smL, Bool.and_eq_true] at h
  rw [smP_eq h.1, smL_eq h.2]
end
mutual
noncomputable def okX : PyData → Bool
 | .int i => Nat.ble i.natAbs 999999999999
 | .str x => (x.cps.toList.all fun c => Nat.ble c 1114111) && Nat.ble x.cps.size 1000
 | .list xs => okXL xs
 | .tuple xs => okXL xs
 | _ => false
noncomputable def okXL : List PyData → Bool
 | [] => true
 | x :: xs => okX x && okXL xs
end
mutual
theorem okX_short : ∀ (p : PyData), okX p = true → p.leavesShort 13 = true
 | .int i, h => by
  simp only [okX] at h
  have := Nat.le_of_ble_eq_true h
  simp only [PyData.leavesShort, decide_eq_true_eq]
  exact PyData.shown_int_le (by omega)
 | .str x, h => by
  simp only [okX, Bool.and_eq_true, List.all_eq_true] at h
  simp only [PyData.leavesShort, List.all_eq_true, decide_eq_true_eq]
  intro c hc
  have := Nat.le_of_ble_eq_true (h.1 c hc)
  omega
 | .list xs, h => by simp only [PyData.leavesShort]; exact okXL_short xs (by simpa only [okX] using h)
 | .tuple xs, h => by simp only [PyData.leavesShort]; exact okXL_short xs (by simpa only [okX] using h)
 | .none, h => by simp [okX] at h
 | .bool _, h => by simp [okX] at h
 | .dict _, h => by simp [okX] at h
theorem okXL_short : ∀ (xs : List PyData), okXL xs = true → PyData.leavesShortAll 13 xs = true
 | [], _ => rfl
 | x :: xs, h => by
  simp only [okXL, Bool.and_eq_true] at h
  simp only [PyData.leavesShortAll, okX_short x h.1, okXL_short xs h.2, Bool.and_self]
end
mutual
theorem okX_rp : ∀ (d : D) (p : PyData), d.py = some p → okX p = true → rpD d = some p.shown ∧ dpD d = p.depth
 | .int i, p, e, h => by
  cases e
  simp only [okX] at h
  have := Nat.le_of_ble_eq_true h
  have hl : i.natAbs.log2 < 1920 := by
   by_cases z : i.natAbs = 0
   ·rw [z]; decide
   ·have h1 := (Nat.log2_lt (k := 40) z).mpr (by omega)
    omega
  exact ⟨by simp only [rpD, hl, if_true, PyData.shown], rfl⟩
 | .str x, p, e, h => by
  cases e
  simp only [okX, Bool.and_eq_true, List.all_eq_true] at h
  have h1 := StrLaws.reprText_len x (fun c hc => by have := Nat.le_of_ble_eq_true (h.1 c hc); omega)
  have h2 := Nat.le_of_ble_eq_true h.2
  have h3 : x.length = x.cps.size := rfl
  have hl : (reprText x).length ≤ sizeLine := by rw [sizeLine_eq]; omega
  exact ⟨by simp only [rpD, hl, if_true, PyData.shown], rfl⟩
 | .lst o xs, p, e, h => by
  simp only [D.py] at e
  rcases e1 : D.pyL xs with _ | ps
  ·rw [e1] at e; cases e
  ·rw [e1] at e; cases e
   obtain ⟨a, b⟩ := okXL_rp xs ps e1 (by simpa only [okX] using h)
   exact ⟨by simp only [rpD, a, map_some, PyData.shown], by simp only [dpD, b, PyData.depth]⟩
 | .tup xs, p, e, h => by
  simp only [D.py] at e
  rcases e1 : D.pyL xs with _ | ps
  ·rw [e1] at e; cases e
  ·rw [e1] at e; cases e
   obtain ⟨a, b⟩ := okXL_rp xs ps e1 (by simpa only [okX] using h)
   exact ⟨by simp only [rpD, a, map_some, PyData.shown], by simp only [dpD, b, PyData.depth]⟩
 | .non, p, e, h => by cases e; simp [okX] at h
 | .bl _, p, e, h => by cases e; simp [okX] at h
 | .hole, p, e, h => by simp [D.py] at e
 | .cell, p, e, h => by simp [D.py] at e
 | .node _ _, p, e, h => by simp [D.py] at e
 | .ty _, p, e, h => by simp [D.py] at e
 | .cls _, p, e, h => by simp [D.py] at e
 | .obj _ _ _ _, p, e, h => by simp [D.py] at e
 | .dct _ _ _, p, e, h => by simp [D.py] at e
theorem okXL_rp : ∀ (ds : List D) (ps : List PyData), D.pyL ds = some ps → okXL ps = true → rpL ds = some (PyData.shownAll ps) ∧ dpL ds = PyData.depthAll ps
 | [], ps, e, h => by simp only [D.pyL] at e; cases e; exact ⟨rfl, rfl⟩
 | x :: xs, ps, e, h => by
  simp only [D.pyL] at e
  rcases e1 : D.py x with _ | p
  ·rw [e1] at e; cases e
  ·rw [e1] at e; simp only [bind_some] at e
   rcases e2 : D.pyL xs with _ | qs
   ·rw [e2] at e; cases e
   ·rw [e2] at e; cases e
    simp only [okXL, Bool.and_eq_true] at h
    obtain ⟨a, b⟩ := okX_rp x p e1 h.1
    obtain ⟨c, d⟩ := okXL_rp xs qs e2 h.2
    exact ⟨by simp only [rpL, a, c, bind_some, map_some, PyData.shownAll], by simp only [dpL, b, d, PyData.depthAll]⟩
end
noncomputable def rX : Rl PyData := fun p d => d = .str p.shown
instance : Sc rX := ⟨fun _ _ h => by cases h; exact ⟨_, rfl⟩⟩
noncomputable def txt (p : PyData) : Option PyData := if (okX p && Nat.ble p.weight 1048576 && Nat.ble p.depth 40) = true then some p else none
theorem str_txt {x y : D} {o : Bool} {px py q : PyData} (e1 : x.py = some px) (e2 : y.py = some py) (h : txt (.list [px, py]) = some q) : ∃ z, strLD [.lst o [x, y]] = some z ∧ rX q z := by
 unfold txt at h
 split at h
 ·rename_i hk
  cases h
  simp only [Bool.and_eq_true] at hk
  obtain ⟨⟨h1, h2⟩, h3⟩ := hk
  have h2 := Nat.le_of_ble_eq_true h2
  have h3 := Nat.le_of_ble_eq_true h3
  have ep : (D.lst o [x, y]).py = some (.list [px, py]) := by simp only [D.py, D.pyL, e1, e2, bind_some, map_some]
  obtain ⟨a, b⟩ := okX_rp _ _ ep h1
  have hl := PyData.shown_fits (B := 13) (by decide) (by decide) (okX_short _ h1) (by show _ ≤ 1048576; exact h2)
  exact ⟨_, by simp only [strLD, a, bind_some, hl, b, h3, decide_true, Bool.and_self, if_true], rfl⟩
 ·cases h
theorem jo_neX : JO gNeS (fun p q => if smP p q = true then some false else none) rX rX rB := fun a b c x y e h1 h2 => by
 cases h1; cases h2
 dsimp only at e
 split at e
 ·rename_i h
  cases e
  rw [smP_eq h]
  exact ⟨_, rfl, by simp [rB]⟩
 ·cases e
section
variable {S : Type} {α β : Type} {Γ Γ1 Γ2 : Shp S}
theorem jp_str2 {r1 : Rl α} {r2 : Rl β} [k1 : Py r1] [k2 : Py r2] {p q : DP} {f1 : S → Option α} {f2 : S → Option β} (h1 : JP Γ p f1 r1) (h2 : JP Γ q f2 r2) :
  JP Γ (pCall strLD [pLst [p, q]]) (fun s => (f1 s).bind fun a => (f2 s).bind fun b => txt (.list [Py.pe r1 a, Py.pe r2 b])) rX := fun s σ v hs e => by
 obtain ⟨a, e1, e⟩ := bd e
 obtain ⟨b, e2, e⟩ := bd e
 obtain ⟨x, hx, rx⟩ := h1 s σ a hs e1
 obtain ⟨y, hy, ry⟩ := h2 s σ b hs e2
 obtain ⟨z, hz, rz⟩ := str_txt (o := true) (k1.py _ _ rx) (k2.py _ _ ry) e
 have h2 : [x, y].length ≤ sizeLine := szl (by simp)
 exact ⟨z, by simp only [pCall, evB, pLst, hx, hy, bind_some, map_some, h2, if_true, hz], rz⟩
theorem je_str2 {r1 : Rl α} {r2 : Rl β} [k1 : Py r1] [k2 : Py r2] {c c' : DE} {f1 : S → Option (α × S)} {f2 : S → Option (β × S)} (h1 : JE Γ c f1 r1 Γ1) (h2 : JE Γ1 c' f2 r2 Γ2) :
  JE Γ (dCallB strLD (aCons (dLst (aCons c (aCons c' aNil))) aNil)) (fun s => (f1 s).bind fun p => (f2 p.2).bind fun q => (txt (.list [Py.pe r1 p.1, Py.pe r2 q.1])).map fun t => (t, q.2)) rX Γ2 := fun s σ v s' hs e => by
 obtain ⟨⟨a, s1⟩, e1, e⟩ := bd e
 obtain ⟨⟨b, s2⟩, e2, e⟩ := bd e
 obtain ⟨t, e3, e⟩ := mp e
 cases e
 obtain ⟨x, σ1, hx, rx, k1'⟩ := h1 s σ a s1 hs e1
 obtain ⟨y, σ2, hy, ry, k2'⟩ := h2 s1 σ1 b s2 k1' e2
 obtain ⟨z, hz, rz⟩ := str_txt (o := true) (k1.py _ _ rx) (k2.py _ _ ry) e3
 have h2 : [x, y].length ≤ sizeLine := szl (by simp)
 exact ⟨z, σ2, by simp only [dCallB, aCons, aNil, dLst, hx, hy, bind_some, map_some, h2, if_true, hz], rz, k2'⟩
theorem je_app0 (i : Nat) {get : S → List (List α)} {put : S → List (List α) → S} {r : Rl α} [k : Sc r] {p : DP} {f : S → Option α} (h : JP Γ p f r) (hi : Γ[i]? = some (some ⟨get, rL (rL r)⟩)) (hg : ∀ s v, get (put s v) = v := by intro _ _; rfl) (hf : ∀ v, Fr (fun s => put s v) (Γ.set i none) := by intro _; repeat (first | exact Fr.nil | refine Fr.som (fun _ _ h => h) ?_ | refine Fr.non ?_)) :
  JE Γ (dApp i [pC (.int 0)] p) (fun s => (f s).bind fun v => match get s with | [] => none | x :: xs => if ltC (x.length) = true then some ((), put s ((x ++ [v]) :: xs)) else none) rN (Γ.set i (some ⟨get, rL (rL r)⟩)) := fun s σ v s' hs e => by
 obtain ⟨a, e1, e⟩ := bd e
 obtain ⟨d, hd, h2⟩ := hs.get hi
 dsimp only at h2
 rcases hg0 : get s with _ | ⟨x0, xs0⟩
 ·rw [hg0] at e; cases e
 ·rw [hg0] at e h2
  dsimp only at e
  split at e
  ·rename_i hl
   have hl := ltC_lt hl
   cases e
   obtain ⟨x, hx, rx⟩ := h s σ a hs e1
   obtain ⟨ds, rfl, h3⟩ := h2
   cases h3 with
   | @cons _ d1 _ ds1 h4 h5 =>
    obtain ⟨es, rfl, h6⟩ := h4
    obtain ⟨w, hw⟩ := k.s _ _ rx
    refine ⟨.non, σ.set i (some (.lst true (.lst true (es ++ [x]) :: ds1))), ?_, rfl, hs.put hg hf ⟨_, rfl, .cons ⟨_, rfl, h6.append (.cons rx .nil)⟩ h5⟩⟩
    have e1 : evI [pC (.int 0)] σ = some [0] := rfl
    have e2 : atI (D.lst true es :: ds1) 0 = some (.lst true es) := by
     unfold atI
     have : ixN (D.lst true es :: ds1).length 0 = some 0 := by simp [ixN]
     rw [this]; rfl
    have e3 : getP (D.lst true (D.lst true es :: ds1)) [0] = some (.lst true es) := by simp only [getP, e2, bind_some]
    have e4 : setP (D.lst true (D.lst true es :: ds1)) [0] (.lst true (es ++ [x])) = .lst true (.lst true (es ++ [x]) :: ds1) := by
     have : ixN (D.lst true es :: ds1).length 0 = some 0 := by simp [ixN]
     simp only [setP, this]; rfl
    simp only [dApp, hd, e1, e3, hx, hw, bind_some, ← h6.len, hl, if_true, e4]
  ·cases e
end
end TT
namespace LW
open PySem L2 DD
noncomputable def top (i : Nat) : Stmt := PySem.Challenge.pw_telltight_k02_rules_in_order.main.body.getD i (.Pass ⟨0, 0, 0, 0⟩)
noncomputable abbrev s_all_names : Stmt := top 1
noncomputable abbrev s_value : Stmt := top 5
noncomputable abbrev s__law_mix : Stmt := top 13
noncomputable abbrev s__law_pop : Stmt := top 15
noncomputable abbrev s__law_row_of : Stmt := top 16
noncomputable abbrev s__law_value : Stmt := top 18
noncomputable abbrev s__law_bits : Stmt := top 19
noncomputable abbrev s__law_named : Stmt := top 21
noncomputable abbrev s_row_of_terms : Stmt := top 2
noncomputable abbrev s_pairs_with_known : Stmt := top 7
noncomputable abbrev s__law_draws : Stmt := top 14
noncomputable abbrev s__law_rules : Stmt := top 17
noncomputable abbrev s__law_table : Stmt := top 20
noncomputable abbrev s_rest_row : Stmt := top 3
noncomputable abbrev s_shared_row : Stmt := top 4
noncomputable abbrev s_rules : Stmt := top 8
noncomputable abbrev s_rule_row : Stmt := top 9
noncomputable abbrev s_rule_rows : Stmt := top 10
noncomputable abbrev s_keeps_rules : Stmt := top 11
noncomputable abbrev s_law : Stmt := top 22
theorem sc_all_names : FnScope ["n"] ["n"] (defScope s_all_names) := ⟨rfl, rfl, rfl, by decide +kernel, rfl, by decide +kernel, by decide +kernel⟩
theorem sc_value : FnScope ["row", "table"] ["row", "table"] (defScope s_value) := ⟨rfl, rfl, rfl, by decide +kernel, rfl, by decide +kernel, by decide +kernel⟩
theorem sc__law_mix : FnScope ["_law_cell", "_law_turn", "_law_number"] ["_law_cell", "_law_turn"] (defScope s__law_mix) := ⟨rfl, rfl, rfl, by decide +kernel, rfl, by decide +kernel, by decide +kernel⟩
theorem sc__law_pop : FnScope ["_law_draws_here"] ["_law_draws_here"] (defScope s__law_pop) := ⟨rfl, rfl, rfl, by decide +kernel, rfl, by decide +kernel, by decide +kernel⟩
theorem sc__law_row_of : FnScope ["_law_n", "_law_terms", "_law_row", "_law_group", "_law_number"] ["_law_n", "_law_terms"] (defScope s__law_row_of) := ⟨rfl, rfl, rfl, by decide +kernel, rfl, by decide +kernel, by decide +kernel⟩
theorem sc__law_value : FnScope ["_law_row", "_law_table_here"] ["_law_row", "_law_table_here"] (defScope s__law_value) := ⟨rfl, rfl, rfl, by decide +kernel, rfl, by decide +kernel, by decide +kernel⟩
theorem sc__law_bits : FnScope ["_law_group"] ["_law_group"] (defScope s__law_bits) := ⟨rfl, rfl, rfl, by decide +kernel, rfl, by decide +kernel, by decide +kernel⟩
theorem sc__law_named : FnScope ["_law_n", "_law_found", "_law_i", "_law_j", "_law_g"] ["_law_n"] (defScope s__law_named) := ⟨rfl, rfl, rfl, by decide +kernel, rfl, by decide +kernel, by decide +kernel⟩
theorem sc_row_of_terms : FnScope ["n", "terms", "row", "group", "number"] ["n", "terms"] (defScope s_row_of_terms) := ⟨rfl, rfl, rfl, by decide +kernel, rfl, by decide +kernel, by decide +kernel⟩
theorem sc_pairs_with_known : FnScope ["n", "i", "j", "both"] ["n", "i", "j"] (defScope s_pairs_with_known) := ⟨rfl, rfl, rfl, by decide +kernel, rfl, by decide +kernel, by decide +kernel⟩
theorem sc__law_draws : FnScope ["_law_script", "_law_turn", "_law_many", "_law_cells", "_law_lefts", "_law_found", "_law_k", "_law_at", "_law_number"] ["_law_script", "_law_turn", "_law_many"] (defScope s__law_draws) := ⟨rfl, rfl, rfl, by decide +kernel, rfl, by decide +kernel, by decide +kernel⟩
theorem sc__law_rules : FnScope ["_law_n", "_law_whole", "_law_rows", "_law_i", "_law_j", "_law_one", "_law_other", "_law_g", "_law_terms"] ["_law_n"] (defScope s__law_rules) := ⟨rfl, rfl, rfl, by decide +kernel, rfl, by decide +kernel, by decide +kernel⟩
theorem sc__law_table : FnScope ["_law_n", "_law_draws_here", "_law_table_here", "_law_k", "_law_number", "_law_mask", "_law_most", "_law_times", "_law_pair", "_law_four"] ["_law_n", "_law_draws_here"] (defScope s__law_table) := ⟨rfl, rfl, rfl, by decide +kernel, rfl, by decide +kernel, by decide +kernel⟩
theorem sc_rest_row : FnScope ["n", "a", "b"] ["n", "a", "b"] (defScope s_rest_row) := ⟨rfl, rfl, rfl, by decide +kernel, rfl, by decide +kernel, by decide +kernel⟩
theorem sc_shared_row : FnScope ["n", "a", "b", "c"] ["n", "a", "b", "c"] (defScope s_shared_row) := ⟨rfl, rfl, rfl, by decide +kernel, rfl, by decide +kernel, by decide +kernel⟩
theorem sc_rules : FnScope ["n", "found", "i", "j"] ["n"] (defScope s_rules) := ⟨rfl, rfl, rfl, by decide +kernel, rfl, by decide +kernel, by decide +kernel⟩
theorem sc_rule_row : FnScope ["n", "rule", "one"] ["n", "rule"] (defScope s_rule_row) := ⟨rfl, rfl, rfl, by decide +kernel, rfl, by decide +kernel, by decide +kernel⟩
theorem sc_rule_rows : FnScope ["n"] ["n"] (defScope s_rule_rows) := ⟨rfl, rfl, rfl, by decide +kernel, rfl, by decide +kernel, by decide +kernel⟩
theorem sc_keeps_rules : FnScope ["n", "table"] ["n", "table"] (defScope s_keeps_rules) := ⟨rfl, rfl, rfl, by decide +kernel, rfl, by decide +kernel, by decide +kernel⟩
theorem sc_law : FnScope ["_law_script", "_law_draws_here", "_law_n", "_law_found", "_law_rows", "_law_turn", "_law_table_here", "_law_number", "_law_at", "_law_kept", "_law_told", "_law_due"] ["_law_script"] (defScope s_law) := ⟨rfl, rfl, rfl, by decide +kernel, rfl, by decide +kernel, by decide +kernel⟩
noncomputable def c_all_names : DS := (sRet (dS (pOp gSub (pOp gShl (pC (.int 1)) (pV 0)) (pC (.int 1)))))
noncomputable def g_all_names : GF := gOf 1 [] c_all_names
noncomputable def c_value : DS := (sRet (dCallB sumD (aCons (dLc 2 (iZipD (dCp 0) (dCp 1)) (gTupD 2 (gConsD (gNm 2) (gConsD (gNm 3) gNilD))) tTrue (dS (pOp gMul (pV 2) (pV 3)))) aNil)))
noncomputable def g_value : GF := gOf 2 [] c_value
noncomputable def c__law_mix : DS := (sSeq (sSet 2 (dS (pOp gMod (pOp gMul (pOp gAdd (pOp gAdd (pOp gMod (pV 0) (pC (.int 2147483647))) (pOp gMul (pOp gMul (pV 1) (pV 1)) (pC (.int 7919)))) (pC (.int 104729))) (pC (.int 48271))) (pC (.int 2147483647)))))
   (sRet (dS (pOp gMod (pOp gAdd (pOp gMul (pV 2) (pV 2)) (pOp gMul (pC (.int 69621)) (pV 1))) (pC (.int 2147483629))))))
noncomputable def g__law_mix : GF := gOf 3 [2] c__law_mix
noncomputable def c__law_pop : DS := (sSeq (sIf (dTest (dS (pOp gEq (pV 0) (pLst [])))) (sRet (dS (pC (.int 0)))) sSkip)
   (sRet (dPopV 0)))
noncomputable def g__law_pop : GF := gOf 1 [] c__law_pop
noncomputable def c__law_row_of : DS := (sSeq (sSet 2 (dLc 1 (iR1 (aCons (dS (pOp gSub (pOp gShl (pC (.int 1)) (pV 0)) (pC (.int 1)))) aNil)) (gNm 5) tTrue (dS (pC (.int 0)))))
   (sSeq (sForI (iLst (dCp 1)) (gTupD 2 (gConsD (gNm 3) (gConsD (gNm 4) gNilD))) (sIf (dTest (dOp gGt (dS (pV 3)) (dS (pC (.int 0))))) (sAsg (dS (pOp gAdd (pOp ixD (pV 2) (pOp gSub (pV 3) (pC (.int 1)))) (pV 4))) (gSet 2 [] (pOp gSub (pV 3) (pC (.int 1))))) sSkip))
   (sRet (dMv 2))))
noncomputable def g__law_row_of : GF := gOf 5 [2, 3, 4] c__law_row_of
noncomputable def c__law_value : DS := (sRet (dCallB sumD (aCons (dLc 1 (iR1 (aCons (dS (pCall lenD [(pV 0)])) aNil)) (gNm 2) tTrue (dS (pOp gMul (pOp ixD (pV 0) (pV 2)) (pOp ixD (pV 1) (pV 2))))) aNil)))
noncomputable def g__law_value : GF := gOf 2 [] c__law_value
noncomputable def c__law_bits : DS := (sRet (dCallB lenD (aCons (dLc 1 (iR1 (aCons (dS (pC (.int 4))) aNil)) (gNm 1) (dTest (dOp gEq (dS (pOp gAnd (pOp gShr (pV 0) (pV 1)) (pC (.int 1)))) (dS (pC (.int 1))))) (dS (pV 1))) aNil)))
noncomputable def g__law_bits : GF := gOf 1 [] c__law_bits
noncomputable def c__law_named : DS := (sSeq (sSet 1 (dLc 1 (iR1 (aCons (dS (pV 0)) aNil)) (gNm 5) tTrue (dTup (aCons (dS (pC (.str "last"))) (aCons (dS (pV 5)) aNil)))))
   (sSeq (sForI (iR1 (aCons (dS (pV 0)) aNil)) (gNm 2) (sForI (iR2 (aCons (dS (pOp gAdd (pV 2) (pC (.int 1)))) (aCons (dS (pV 0)) aNil))) (gNm 3) (sForI (iR1 (aCons (dS (pOp gShl (pC (.int 1)) (pV 0))) aNil)) (gNm 4) (sIf (tAndD (dTest (dOp gEq (dS (pOp gAnd (pOp gShr (pV 4) (pV 2)) (pC (.int 1)))) (dS (pC (.int 0))))) (dTest (dOp gEq (dS (pOp gAnd (pOp gShr (pV 4) (pV 3)) (pC (.int 1)))) (dS (pC (.int 0)))))) (sDrop (dAppV 1 (dTup (aCons (dS (pC (.str "pair"))) (aCons (dS (pV 2)) (aCons (dS (pV 3)) (aCons (dS (pV 4)) aNil))))))) sSkip))))
   (sRet (dMv 1))))
noncomputable def g__law_named : GF := gOf 5 [1, 2, 3, 4] c__law_named
noncomputable def c_row_of_terms : DS := (sSeq (sSet 2 (dRep (dLst (aCons (dS (pC (.int 0))) aNil)) (dCall g_all_names [.bo 0])))
   (sSeq (sForI (iLst (dCp 1)) (gTupD 2 (gConsD (gNm 3) (gConsD (gNm 4) gNilD))) (sIf (dTest (dOp gNe (dS (pV 3)) (dS (pC (.int 0))))) (sAugIx gAdd 2 [] (pOp gSub (pV 3) (pC (.int 1))) (pV 4)) sSkip))
   (sRet (dMv 2))))
noncomputable def g_row_of_terms : GF := gOf 5 [2, 3, 4] c_row_of_terms
noncomputable def c_pairs_with_known : DS := (sSeq (sSet 3 (dS (pOp gOr (pOp gShl (pC (.int 1)) (pV 1)) (pOp gShl (pC (.int 1)) (pV 2)))))
   (sRet (dLc 1 (iR1 (aCons (dOp gAdd (dCall g_all_names [.bo 0]) (dS (pC (.int 1)))) aNil)) (gNm 4) (dTest (dOp gEq (dS (pOp gAnd (pV 4) (pV 3))) (dS (pC (.int 0))))) (dTup (aCons (dS (pC (.str "pair"))) (aCons (dS (pV 1)) (aCons (dS (pV 2)) (aCons (dS (pV 4)) aNil))))))))
noncomputable def g_pairs_with_known : GF := gOf 4 [3] c_pairs_with_known
noncomputable def c__law_draws : DS := (sSeq (sSet 3 (dCat (dSlB (pV 0) none (some (pC (.int 63)))) (dLst (aCons (dS (pV 1)) aNil))))
   (sSeq (sSet 4 (dLc 1 (iLst (dCp 3)) (gNm 9) tTrue (dS (pOp gFdv (pV 9) (pC (.int 100000))))))
   (sSeq (sSet 5 (dLst aNil))
   (sSeq (sForI (iR1 (aCons (dS (pOp gAdd (pV 1) (pV 2))) aNil)) (gNm 6) (sSeq (sSet 7 (dS (pOp gMod (pV 6) (pCall lenD [(pV 3)]))))
   (sSeq (sSet 8 (dCall g__law_mix [.ex (dS (pOp ixD (pV 3) (pV 7))), .bo 6]))
   (sSeq (sSet 8 (dS (pOp gMod (pOp gAdd (pOp gMul (pV 8) (pV 8)) (pOp gMul (pC (.int 7)) (pV 6))) (pC (.int 2147483587)))))
   (sSeq (sIf (tAndD (dTest (dOp gGe (dS (pOp ixD (pV 3) (pV 7))) (dS (pOp gPow (pC (.int 10)) (pC (.int 18)))))) (dTest (dOp gGt (dS (pOp ixD (pV 4) (pV 7))) (dS (pC (.int 0)))))) (sSeq (sSet 8 (dS (pOp gMod (pOp ixD (pV 4) (pV 7)) (pC (.int 2147483587)))))
   (sAsg (dS (pOp gFdv (pOp ixD (pV 4) (pV 7)) (pC (.int 2147483587)))) (gSet 4 [] (pV 7)))) sSkip)
   (sDrop (dApp 5 [] (pV 8))))))))
   (sRet (dSlB (pV 5) (some (pV 1)) none))))))
noncomputable def g__law_draws : GF := gOf 9 [3, 4, 5, 6, 7, 8, 8, 8] c__law_draws
noncomputable def c__law_rules : DS := (sSeq (sSet 1 (dS (pOp gSub (pOp gShl (pC (.int 1)) (pV 0)) (pC (.int 1)))))
   (sSeq (sSet 2 (dLc 1 (iR1 (aCons (dS (pV 0)) aNil)) (gNm 9) tTrue (dCall g__law_row_of [.bo 0, .ex (dLst (aCons (dTup (aCons (dS (pV 1)) (aCons (dS (pC (.int 1))) aNil))) (aCons (dTup (aCons (dS (pOp gSub (pV 1) (pOp gShl (pC (.int 1)) (pV 9)))) (aCons (dS (pNeg (pC (.int 1)))) aNil))) aNil)))])))
   (sSeq (sForI (iR1 (aCons (dS (pV 0)) aNil)) (gNm 3) (sForI (iR2 (aCons (dS (pOp gAdd (pV 3) (pC (.int 1)))) (aCons (dS (pV 0)) aNil))) (gNm 4) (sSeq (sSet 5 (dS (pOp gShl (pC (.int 1)) (pV 3))))
   (sSeq (sSet 6 (dS (pOp gShl (pC (.int 1)) (pV 4))))
   (sForI (iR1 (aCons (dS (pOp gAdd (pV 1) (pC (.int 1)))) aNil)) (gNm 7) (sIf (dTest (dOp gEq (dS (pOp gAnd (pV 7) (pOp gOr (pV 5) (pV 6)))) (dS (pC (.int 0))))) (sSeq (sSet 8 (dLst (aCons (dTup (aCons (dS (pOp gOr (pV 7) (pV 5))) (aCons (dS (pC (.int 1))) aNil))) (aCons (dTup (aCons (dS (pOp gOr (pV 7) (pV 6))) (aCons (dS (pC (.int 1))) aNil))) (aCons (dTup (aCons (dS (pOp gOr (pOp gOr (pV 7) (pV 5)) (pV 6))) (aCons (dS (pNeg (pC (.int 1)))) aNil))) (aCons (dTup (aCons (dS (pV 7)) (aCons (dS (pNeg (pC (.int 1)))) aNil))) aNil))))))
   (sDrop (dAppV 2 (dCall g__law_row_of [.bo 0, .bo 8])))) sSkip))))))
   (sRet (dMv 2)))))
noncomputable def g__law_rules : GF := gOf 9 [1, 2, 3, 4, 5, 6, 7, 8] c__law_rules
noncomputable def c__law_table : DS := (sSeq (sSet 2 (dLc 1 (iR1 (aCons (dS (pOp gSub (pOp gShl (pC (.int 1)) (pV 0)) (pC (.int 1)))) aNil)) (gNm 10) tTrue (dS (pC (.int 0)))))
   (sSeq (sForI (iR1 (aCons (dOp gMod (dCall g__law_pop [.bo 1]) (dS (pC (.int 5)))) aNil)) (gNm 3) (sSeq (sSet 4 (dCall g__law_pop [.bo 1]))
   (sSeq (sSet 5 (dS (pOp gMod (pV 4) (pOp gShl (pC (.int 1)) (pV 0)))))
   (sSeq (sSet 6 (dS (pOp gAdd (pC (.int 1)) (pOp gMod (pOp gFdv (pV 4) (pC (.int 16))) (pC (.int 3))))))
   (sSeq (sSet 7 (dS (pOp ixD (pLst [(pC (.int 1)), (pC (.int 2)), (pOp gAdd (pC (.int 1)) (pOp gMod (pOp gFdv (pV 4) (pC (.int 48))) (pC (.int 5)))), (pOp gAdd (pC (.int 1)) (pOp gFdv (pV 4) (pC (.int 48))))]) (pOp gMod (pOp gFdv (pV 4) (pC (.int 240))) (pC (.int 4))))))
   (sSet 2 (dLc 1 (iR1 (aCons (dS (pCall lenD [(pV 2)])) aNil)) (gNm 10) tTrue (dOp gAdd (dS (pOp ixD (pV 2) (pV 10))) (dOp gMul (dS (pV 7)) (dCallB min2D (aCons (dS (pV 6)) (aCons (dCall g__law_bits [.ex (dS (pOp gAnd (pV 5) (pOp gAdd (pV 10) (pC (.int 1)))))]) aNil))))))))))))
   (sSeq (sSet 4 (dCall g__law_pop [.bo 1]))
   (sSeq (sIf (tAndD (dTest (dOp gEq (dS (pV 0)) (dS (pC (.int 4))))) (dTest (dOp gEq (dS (pOp gMod (pV 4) (pC (.int 3)))) (dS (pC (.int 0)))))) (sSeq (sSet 8 (dS (pOp ixD (pLst [(pC (.int 3)), (pC (.int 5)), (pC (.int 6)), (pC (.int 9)), (pC (.int 10)), (pC (.int 12))]) (pOp gMod (pOp gFdv (pV 4) (pC (.int 3))) (pC (.int 6))))))
   (sSeq (sSet 9 (dLc 1 (iR1 (aCons (dS (pC (.int 15))) aNil)) (gNm 10) tTrue (dOp gAdd (dIx (dLst (aCons (dS (pC (.int 2))) (aCons (dS (pC (.int 3))) (aCons (dS (pC (.int 4))) (aCons (dS (pC (.int 4))) aNil))))) (dOp gSub (dCall g__law_bits [.ex (dS (pOp gAdd (pV 10) (pC (.int 1))))]) (dS (pC (.int 1))))) (dS (pCall intD [(pOp gEq (pOp gAdd (pV 10) (pC (.int 1))) (pV 8))])))))
   (sSet 2 (dLc 1 (iR1 (aCons (dS (pC (.int 15))) aNil)) (gNm 10) tTrue (dS (pOp gAdd (pOp ixD (pV 2) (pV 10)) (pOp ixD (pV 9) (pV 10)))))))) sSkip)
   (sRet (dMv 2))))))
noncomputable def g__law_table : GF := gOf 10 [2, 3, 4, 5, 6, 7, 2, 4, 8, 9, 2] c__law_table
noncomputable def c_rest_row : DS := (sRet (dCall g_row_of_terms [.bo 0, .ex (dLst (aCons (dTup (aCons (dS (pOp gOr (pV 1) (pV 2))) (aCons (dS (pC (.int 1))) aNil))) (aCons (dTup (aCons (dS (pV 2)) (aCons (dS (pNeg (pC (.int 1)))) aNil))) aNil)))]))
noncomputable def g_rest_row : GF := gOf 3 [] c_rest_row
noncomputable def c_shared_row : DS := (sRet (dCall g_row_of_terms [.bo 0, .ex (dLst (aCons (dTup (aCons (dS (pOp gOr (pV 1) (pV 3))) (aCons (dS (pC (.int 1))) aNil))) (aCons (dTup (aCons (dS (pOp gOr (pV 2) (pV 3))) (aCons (dS (pC (.int 1))) aNil))) (aCons (dTup (aCons (dS (pOp gOr (pOp gOr (pV 1) (pV 2)) (pV 3))) (aCons (dS (pNeg (pC (.int 1)))) aNil))) (aCons (dTup (aCons (dS (pV 3)) (aCons (dS (pNeg (pC (.int 1)))) aNil))) aNil)))))]))
noncomputable def g_shared_row : GF := gOf 4 [] c_shared_row
noncomputable def c_rules : DS := (sSeq (sSet 1 (dLc 1 (iR1 (aCons (dS (pV 0)) aNil)) (gNm 4) tTrue (dTup (aCons (dS (pC (.str "last"))) (aCons (dS (pV 4)) aNil)))))
   (sSeq (sForI (iR1 (aCons (dS (pV 0)) aNil)) (gNm 2) (sForI (iR2 (aCons (dS (pOp gAdd (pV 2) (pC (.int 1)))) (aCons (dS (pV 0)) aNil))) (gNm 3) (sDrop (dExtV 1 (dCall g_pairs_with_known [.bo 0, .bo 2, .bo 3])))))
   (sRet (dMv 1))))
noncomputable def g_rules : GF := gOf 4 [1, 2, 3] c_rules
noncomputable def c_rule_row : DS := (sSeq (sSet 2 (dS (pOp gShl (pC (.int 1)) (pOp ixD (pV 1) (pC (.int 1))))))
   (sSeq (sIf (dTest (dOp gEq (dS (pOp ixD (pV 1) (pC (.int 0)))) (dS (pC (.str "last"))))) (sRet (dCall g_rest_row [.bo 0, .bo 2, .ex (dOp gSub (dCall g_all_names [.bo 0]) (dS (pV 2)))])) sSkip)
   (sRet (dCall g_shared_row [.bo 0, .bo 2, .ex (dS (pOp gShl (pC (.int 1)) (pOp ixD (pV 1) (pC (.int 2))))), .ex (dS (pOp ixD (pV 1) (pC (.int 3))))]))))
noncomputable def g_rule_row : GF := gOf 3 [2] c_rule_row
noncomputable def c_rule_rows : DS := (sRet (dLc 1 (iLst (dCall g_rules [.bo 0])) (gNm 1) tTrue (dCall g_rule_row [.bo 0, .bo 1])))
noncomputable def g_rule_rows : GF := gOf 1 [] c_rule_rows
noncomputable def c_keeps_rules : DS := (sRet (dCallB allD (aCons (dLc 1 (iLst (dCall g_rule_rows [.bo 0])) (gNm 2) tTrue (dOp gGe (dCall g_value [.bo 2, .bo 1]) (dS (pC (.int 0))))) aNil)))
noncomputable def g_keeps_rules : GF := gOf 2 [] c_keeps_rules
noncomputable def c_law : DS := (sSeq (sSet 1 (dCall g__law_draws [.bo 0, .ex (dS (pC (.int 1))), .ex (dS (pC (.int 200)))]))
   (sSeq (sForI (iLst (dLst (aCons (dS (pC (.int 1))) (aCons (dS (pC (.int 2))) (aCons (dS (pC (.int 3))) (aCons (dS (pC (.int 4))) aNil)))))) (gNm 2) (sSeq (sSet 3 (dCall g_rules [.bo 2]))
   (sSeq (sSet 4 (dLcB 3 12 tTrue (dCall g_rule_row [.bo 2, .ex (dCp 12)])))
   (sSeq (sIf (dTest (dOp gNeS (dS (pCall strLD [(pLst [(pV 3), (pV 4)])])) (dCallB strLD (aCons (dLst (aCons (dCall g__law_named [.bo 2]) (aCons (dCall g__law_rules [.bo 2]) aNil))) aNil)))) sNone sSkip)
   (sSeq (sDrop (dClrV 3))
   (sSeq (sDrop (dApp 4 [(pC (.int 0))] (pC (.int 1))))
   (sSeq (sIf (tOrD (dTest (dOp gNe (dCall g_rules [.bo 2]) (dCall g__law_named [.bo 2]))) (dTest (dOp gNe (dCall g_rule_row [.bo 2, .ex (dTup (aCons (dS (pC (.str "last"))) (aCons (dS (pC (.int 0))) aNil)))]) (dIx (dCall g__law_rules [.bo 2]) (dS (pC (.int 0))))))) sNone sSkip)
   (sForI (iR1 (aCons (dS (pC (.int 4))) aNil)) (gNm 5) (sSeq (sSet 6 (dCall g__law_table [.bo 2, .bo 1]))
   (sSeq (sSet 7 (dCall g__law_pop [.bo 1]))
   (sSeq (sIf (dTest (dOp gGt (dS (pOp gMod (pV 7) (pC (.int 3)))) (dS (pC (.int 0))))) (sSeq (sSet 8 (dS (pOp gMod (pOp gFdv (pV 7) (pC (.int 3))) (pCall lenD [(pV 6)]))))
   (sAsg (dS (pOp gAdd (pOp ixD (pV 6) (pV 8)) (pOp ixD (pLst [(pC (.int 1)), (pNeg (pC (.int 1))), (pV 7), (pNeg (pC (.int 3)))]) (pOp gMod (pOp gFdv (pV 7) (pC (.int 48))) (pC (.int 4)))))) (gSet 6 [] (pV 8)))) sSkip)
   (sSeq (sSet 9 (dListB (pV 6)))
   (sSeq (sSet 10 (dCall g_keeps_rules [.bo 2, .bo 6]))
   (sSeq (sSet 11 (dOp gEq (dLc 1 (iLst (dCall g__law_rules [.bo 2])) (gNm 12) (dTest (dOp gLt (dCall g__law_value [.ex (dCp 12), .bo 6]) (dS (pC (.int 0))))) (dCp 12)) (dLst aNil)))
   (sIf (tOrD (tNotD (dTest (dS (pCall isiD [(pV 10), (pC (.ty "bool"))])))) (tOrD (dTest (dOp gNe (dS (pV 10)) (dS (pV 11)))) (dTest (dS (pOp gNe (pV 6) (pV 9)))))) sNone sSkip)))))))))))))))
   (sRet (dS (pC (.bl true))))))
noncomputable def g_law : GF := gOf 12 [1, 2, 3, 4, 5, 6, 7, 8, 9, 10, 11] c_law
set_option genInjectivity false in
set_option genSizeOfSpec false in
set_option genSizeOf false in
structure Txt (K : PySem.W.Frag) (mg : Str → Option Value) where
 a_all_names : Addr
 d_all_names : FuncData
 a_value : Addr
 d_value : FuncData
 a__law_mix : Addr
 d__law_mix : FuncData
 a__law_pop : Addr
 d__law_pop : FuncData
 a__law_row_of : Addr
 d__law_row_of : FuncData
 a__law_value : Addr
 d__law_value : FuncData
 a__law_bits : Addr
 d__law_bits : FuncData
 a__law_named : Addr
 d__law_named : FuncData
 a_row_of_terms : Addr
 d_row_of_terms : FuncData
 a_pairs_with_known : Addr
 d_pairs_with_known : FuncData
 a__law_draws : Addr
 d__law_draws : FuncData
 a__law_rules : Addr
 d__law_rules : FuncData
 a__law_table : Addr
 d__law_table : FuncData
 a_rest_row : Addr
 d_rest_row : FuncData
 a_shared_row : Addr
 d_shared_row : FuncData
 a_rules : Addr
 d_rules : FuncData
 a_rule_row : Addr
 d_rule_row : FuncData
 a_rule_rows : Addr
 d_rule_rows : FuncData
 a_keeps_rules : Addr
 d_keeps_rules : FuncData
set_option genInjectivity false in
set_option genSizeOfSpec false in
set_option genSizeOf false in
structure Tx {K : PySem.W.Frag} {mg : Str → Option Value} (t : Txt K mg) : Prop where
 F_all_names : Fun K "all_names" "all_names" s_all_names t.a_all_names t.d_all_names
 m_all_names : mg "all_names" = some (.ref t.a_all_names)
 n_all_names : Binds K t.d_all_names ["n"] []
 F_value : Fun K "value" "value" s_value t.a_value t.d_value
 m_value : mg "value" = some (.ref t.a_value)
 n_value : Binds K t.d_value ["row", "table"] []
 F__law_mix : Fun K "_law_mix" "_law_mix" s__law_mix t.a__law_mix t.d__law_mix
 m__law_mix : mg "_law_mix" = some (.ref t.a__law_mix)
 n__law_mix : Binds K t.d__law_mix ["_law_cell", "_law_turn"] []
 F__law_pop : Fun K "_law_pop" "_law_pop" s__law_pop t.a__law_pop t.d__law_pop
 m__law_pop : mg "_law_pop" = some (.ref t.a__law_pop)
 n__law_pop : Binds K t.d__law_pop ["_law_draws_here"] []
 F__law_row_of : Fun K "_law_row_of" "_law_row_of" s__law_row_of t.a__law_row_of t.d__law_row_of
 m__law_row_of : mg "_law_row_of" = some (.ref t.a__law_row_of)
 n__law_row_of : Binds K t.d__law_row_of ["_law_n", "_law_terms"] []
 F__law_value : Fun K "_law_value" "_law_value" s__law_value t.a__law_value t.d__law_value
 m__law_value : mg "_law_value" = some (.ref t.a__law_value)
 n__law_value : Binds K t.d__law_value ["_law_row", "_law_table_here"] []
 F__law_bits : Fun K "_law_bits" "_law_bits" s__law_bits t.a__law_bits t.d__law_bits
 m__law_bits : mg "_law_bits" = some (.ref t.a__law_bits)
 n__law_bits : Binds K t.d__law_bits ["_law_group"] []
 F__law_named : Fun K "_law_named" "_law_named" s__law_named t.a__law_named t.d__law_named
 m__law_named : mg "_law_named" = some (.ref t.a__law_named)
 n__law_named : Binds K t.d__law_named ["_law_n"] []
 F_row_of_terms : Fun K "row_of_terms" "row_of_terms" s_row_of_terms t.a_row_of_terms t.d_row_of_terms
 m_row_of_terms : mg "row_of_terms" = some (.ref t.a_row_of_terms)
 n_row_of_terms : Binds K t.d_row_of_terms ["n", "terms"] []
 F_pairs_with_known : Fun K "pairs_with_known" "pairs_with_known" s_pairs_with_known t.a_pairs_with_known t.d_pairs_with_known
 m_pairs_with_known : mg "pairs_with_known" = some (.ref t.a_pairs_with_known)
 n_pairs_with_known : Binds K t.d_pairs_with_known ["n", "i", "j"] []
 F__law_draws : Fun K "_law_draws" "_law_draws" s__law_draws t.a__law_draws t.d__law_draws
 m__law_draws : mg "_law_draws" = some (.ref t.a__law_draws)
 n__law_draws : Binds K t.d__law_draws ["_law_script", "_law_turn", "_law_many"] []
 F__law_rules : Fun K "_law_rules" "_law_rules" s__law_rules t.a__law_rules t.d__law_rules
 m__law_rules : mg "_law_rules" = some (.ref t.a__law_rules)
 n__law_rules : Binds K t.d__law_rules ["_law_n"] []
 F__law_table : Fun K "_law_table" "_law_table" s__law_table t.a__law_table t.d__law_table
 m__law_table : mg "_law_table" = some (.ref t.a__law_table)
 n__law_table : Binds K t.d__law_table ["_law_n", "_law_draws_here"] []
 F_rest_row : Fun K "rest_row" "rest_row" s_rest_row t.a_rest_row t.d_rest_row
 m_rest_row : mg "rest_row" = some (.ref t.a_rest_row)
 n_rest_row : Binds K t.d_rest_row ["n", "a", "b"] []
 F_shared_row : Fun K "shared_row" "shared_row" s_shared_row t.a_shared_row t.d_shared_row
 m_shared_row : mg "shared_row" = some (.ref t.a_shared_row)
 n_shared_row : Binds K t.d_shared_row ["n", "a", "b", "c"] []
 F_rules : Fun K "rules" "rules" s_rules t.a_rules t.d_rules
 m_rules : mg "rules" = some (.ref t.a_rules)
 n_rules : Binds K t.d_rules ["n"] []
 F_rule_row : Fun K "rule_row" "rule_row" s_rule_row t.a_rule_row t.d_rule_row
 m_rule_row : mg "rule_row" = some (.ref t.a_rule_row)
 n_rule_row : Binds K t.d_rule_row ["n", "rule"] []
 F_rule_rows : Fun K "rule_rows" "rule_rows" s_rule_rows t.a_rule_rows t.d_rule_rows
 m_rule_rows : mg "rule_rows" = some (.ref t.a_rule_rows)
 n_rule_rows : Binds K t.d_rule_rows ["n"] []
 F_keeps_rules : Fun K "keeps_rules" "keeps_rules" s_keeps_rules t.a_keeps_rules t.d_keeps_rules
 m_keeps_rules : mg "keeps_rules" = some (.ref t.a_keeps_rules)
 n_keeps_rules : Binds K t.d_keeps_rules ["n", "table"] []
 b_all : mg "all" = none
 b_bool : mg "bool" = none
 b_int : mg "int" = none
 b_isinstance : mg "isinstance" = none
 b_len : mg "len" = none
 b_list : mg "list" = none
 b_min : mg "min" = none
 b_range : mg "range" = none
 b_str : mg "str" = none
 b_sum : mg "sum" = none
 b_zip : mg "zip" = none
section
variable {P : Program} {w : World} {K : PySem.W.Frag} {mg : Str → Option Value} {base : Heap} {t : Txt K mg}
theorem ok_all_names (T : Tx t) : FnOk P w K mg base CX0 1 t.a_all_names t.d_all_names ["n"] (spD K 1 g_all_names) := by
 refine fn_D (N := ["n"]) (W := []) T.F_all_names sc_all_names (by decide) fun cdv A outer s H E hr => ?_
 have hu := hr.units
 exact (qss_one (qs_ret (qe_s (qb_op o_sub (qb_op o_shl qb_int (qb_v 0)) qb_int))))
theorem ok_value (T : Tx t) : FnOk P w K mg base CX0 1 t.a_value t.d_value ["row", "table"] (spD K 2 g_value) := by
 refine fn_D (N := ["row", "table"]) (W := []) T.F_value sc_value (by decide) fun cdv A outer s H E hr => ?_
 have hu := hr.units
 exact (qss_one (qs_ret (qe_fn (id := "sum") (c_sum (by rfl)) (by rfl) T.b_sum (by decide +kernel) (qa_cons (lc_e ["row", "table", "number", "unsureness"] (qi_zip (by rfl) T.b_zip (qe_cp 0) (qe_cp 1)) (fun _ _ _ _ _ => by exact (qg_tup (by rfl) (qgs_cons (qg_name 2 (show List.Nodup (["row", "table", "number", "unsureness"] : List Str) by decide +kernel)) (qgs_cons (qg_name 3 (show List.Nodup (["row", "table", "number", "unsureness"] : List Str) by decide +kernel)) qgs_nil)))) (fun _ _ _ _ _ => by exact qif_nil) (fun _ _ _ _ _ => by exact (qe_s (qb_op o_mul (qb_v 2) (qb_v 3))))) qa_nil))))
theorem ok__law_mix (T : Tx t) : FnOk P w K mg base CX0 1 t.a__law_mix t.d__law_mix ["_law_cell", "_law_turn"] (spD K 2 g__law_mix) := by
 refine fn_D (N := ["_law_cell", "_law_turn", "_law_number"]) (W := [2]) T.F__law_mix sc__law_mix (by decide) fun cdv A outer s H E hr => ?_
 have hu := hr.units
 exact (qss_cons (qs_set 2 sc__law_mix.nd (qe_s (qb_op o_mod (qb_op o_mul (qb_op o_add (qb_op o_add (qb_op o_mod (qb_v 0) qb_int) (qb_op o_mul (qb_op o_mul (qb_v 1) (qb_v 1)) qb_int)) qb_int) qb_int) qb_int)))
   (qss_one (qs_ret (qe_s (qb_op o_mod (qb_op o_add (qb_op o_mul (qb_v 2) (qb_v 2)) (qb_op o_mul qb_int (qb_v 1))) qb_int)))))
theorem ok__law_pop (T : Tx t) : FnOk P w K mg base CX0 1 t.a__law_pop t.d__law_pop ["_law_draws_here"] (spD K 1 g__law_pop) := by
 refine fn_D (N := ["_law_draws_here"]) (W := []) T.F__law_pop sc__law_pop (by decide) fun cdv A outer s H E hr => ?_
 have hu := hr.units
 exact (qss_cons (qs_if (qt_cmpB (o_eq hu) (qb_v 0) (qb_lst qba_nil) (nomark _)) (qss_one (qs_ret (qe_s qb_int))) qss_nil)
   (qss_one (qs_ret (qe_popV 0))))
theorem ok__law_row_of (T : Tx t) : FnOk P w K mg base CX0 1 t.a__law_row_of t.d__law_row_of ["_law_n", "_law_terms"] (spD K 2 g__law_row_of) := by
 refine fn_D (N := ["_law_n", "_law_terms", "_law_row", "_law_group", "_law_number"]) (W := [2, 3, 4]) T.F__law_row_of sc__law_row_of (by decide) fun cdv A outer s H E hr => ?_
 have hu := hr.units
 exact (qss_cons (lc_s 2 ["_law_n", "_law_terms", "_law_row", "%1", "_law_number", "_law_group"] sc__law_row_of.nd (qi_r1 (by rfl) T.b_range (qa_cons (qe_s (qb_op o_sub (qb_op o_shl qb_int (qb_v 0)) qb_int)) qa_nil)) (fun _ _ _ _ _ => by exact (qg_name 5 (show List.Nodup (["_law_n", "_law_terms", "_law_row", "%1", "_law_number", "_law_group"] : List Str) by decide +kernel))) (fun _ _ _ _ _ => by exact qif_nil) (fun _ _ _ _ _ => by exact (qe_s qb_int)))
   (qss_cons (qs_forI (by rfl) (qi_lst (qe_cp 1)) (qg_tup (by rfl) (qgs_cons (qg_name 3 sc__law_row_of.nd) (qgs_cons (qg_name 4 sc__law_row_of.nd) qgs_nil))) (qss_one (qs_if (qt_cmp o_gt (qe_s (qb_v 3)) (qe_s qb_int) (nomark _)) (qss_one (qs_asg (qe_s (qb_op o_add (qb_ix (qb_v 2) (qb_op o_sub (qb_v 3) qb_int)) (qb_v 4))) (qg_set (qp_v 2) (qb_op o_sub (qb_v 3) qb_int)))) qss_nil)) PassesOwn.never)
   (qss_one (qs_ret (qe_mv 2)))))
theorem ok__law_value (T : Tx t) : FnOk P w K mg base CX0 1 t.a__law_value t.d__law_value ["_law_row", "_law_table_here"] (spD K 2 g__law_value) := by
 refine fn_D (N := ["_law_row", "_law_table_here"]) (W := []) T.F__law_value sc__law_value (by decide) fun cdv A outer s H E hr => ?_
 have hu := hr.units
 exact (qss_one (qs_ret (qe_fn (id := "sum") (c_sum (by rfl)) (by rfl) T.b_sum (by decide +kernel) (qa_cons (lc_e ["_law_row", "_law_table_here", "_law_k"] (qi_r1 (by rfl) T.b_range (qa_cons (qe_s (qb_fn (id := "len") c_len (by rfl) T.b_len (by decide +kernel) (qba_cons (qb_v 0) qba_nil))) qa_nil)) (fun _ _ _ _ _ => by exact (qg_name 2 (show List.Nodup (["_law_row", "_law_table_here", "_law_k"] : List Str) by decide +kernel))) (fun _ _ _ _ _ => by exact qif_nil) (fun _ _ _ _ _ => by exact (qe_s (qb_op o_mul (qb_ix (qb_v 0) (qb_v 2)) (qb_ix (qb_v 1) (qb_v 2)))))) qa_nil))))
theorem ok__law_bits (T : Tx t) : FnOk P w K mg base CX0 1 t.a__law_bits t.d__law_bits ["_law_group"] (spD K 1 g__law_bits) := by
 refine fn_D (N := ["_law_group"]) (W := []) T.F__law_bits sc__law_bits (by decide) fun cdv A outer s H E hr => ?_
 have hu := hr.units
 exact (qss_one (qs_ret (qe_fn (id := "len") c_len (by rfl) T.b_len (by decide +kernel) (qa_cons (lc_e ["_law_group", "_law_k"] (qi_r1 (by rfl) T.b_range (qa_cons (qe_s qb_int) qa_nil)) (fun _ _ _ _ _ => by exact (qg_name 1 (show List.Nodup (["_law_group", "_law_k"] : List Str) by decide +kernel))) (fun _ _ _ _ _ => by exact (qif_one (qt_cmp (o_eq hu) (qe_s (qb_op o_and (qb_op o_shr (qb_v 0) (qb_v 1)) qb_int)) (qe_s qb_int) (nomark _)))) (fun _ _ _ _ _ => by exact (qe_s (qb_v 1)))) qa_nil))))
theorem ok__law_named (T : Tx t) : FnOk P w K mg base CX0 1 t.a__law_named t.d__law_named ["_law_n"] (spD K 1 g__law_named) := by
 refine fn_D (N := ["_law_n", "_law_found", "_law_i", "_law_j", "_law_g"]) (W := [1, 2, 3, 4]) T.F__law_named sc__law_named (by decide) fun cdv A outer s H E hr => ?_
 have hu := hr.units
 exact (qss_cons (lc_s 1 ["_law_n", "_law_found", "_law_i", "_law_j", "_law_g", "_law_k"] sc__law_named.nd (qi_r1 (by rfl) T.b_range (qa_cons (qe_s (qb_v 0)) qa_nil)) (fun _ _ _ _ _ => by exact (qg_name 5 (show List.Nodup (["_law_n", "_law_found", "_law_i", "_law_j", "_law_g", "_law_k"] : List Str) by decide +kernel))) (fun _ _ _ _ _ => by exact qif_nil) (fun _ _ _ _ _ => by exact (qe_tup (qa_cons (qe_s qb_str) (qa_cons (qe_s (qb_v 5)) qa_nil)))))
   (qss_cons (qs_forI (by rfl) (qi_r1 (by rfl) T.b_range (qa_cons (qe_s (qb_v 0)) qa_nil)) (qg_name 2 sc__law_named.nd) (qss_one (qs_forI (by rfl) (qi_r2 (by rfl) T.b_range (qa_cons (qe_s (qb_op o_add (qb_v 2) qb_int)) (qa_cons (qe_s (qb_v 0)) qa_nil))) (qg_name 3 sc__law_named.nd) (qss_one (qs_forI (by rfl) (qi_r1 (by rfl) T.b_range (qa_cons (qe_s (qb_op o_shl qb_int (qb_v 0))) qa_nil)) (qg_name 4 sc__law_named.nd) (qss_one (qs_if (qw_t (qw_and (qt_cmp (o_eq hu) (qe_s (qb_op o_and (qb_op o_shr (qb_v 4) (qb_v 2)) qb_int)) (qe_s qb_int) (nomark _)) (qw_and1 (qt_cmp (o_eq hu) (qe_s (qb_op o_and (qb_op o_shr (qb_v 4) (qb_v 3)) qb_int)) (qe_s qb_int) (nomark _))))) (qss_one (qs_expr (qe_appV 1 (qe_tup (qa_cons (qe_s qb_str) (qa_cons (qe_s (qb_v 2)) (qa_cons (qe_s (qb_v 3)) (qa_cons (qe_s (qb_v 4)) qa_nil)))))))) qss_nil)) PassesOwn.never)) PassesOwn.never)) PassesOwn.never)
   (qss_one (qs_ret (qe_mv 1)))))
theorem ok_row_of_terms (T : Tx t) : FnOk P w K mg base CX0 2 t.a_row_of_terms t.d_row_of_terms ["n", "terms"] (spD K 2 g_row_of_terms) := by
 have G_all_names := ok_all_names (P := P) (w := w) (base := base) T
 refine fn_D (N := ["n", "terms", "row", "group", "number"]) (W := [2, 3, 4]) T.F_row_of_terms sc_row_of_terms (by decide) fun cdv A outer s H E hr => ?_
 have hu := hr.units
 exact (qss_cons (qs_set 2 sc_row_of_terms.nd (qe_rep (qe_lst (qa_cons (qe_s qb_int) qa_nil)) (qe_call G_all_names (hr.mono (by decide)) (by rfl) T.m_all_names T.F_all_names.kp T.n_all_names (qm_bo 0 qm_nil))))
   (qss_cons (qs_forI (by rfl) (qi_lst (qe_cp 1)) (qg_tup (by rfl) (qgs_cons (qg_name 3 sc_row_of_terms.nd) (qgs_cons (qg_name 4 sc_row_of_terms.nd) qgs_nil))) (qss_one (qs_if (qt_cmp (o_ne hu) (qe_s (qb_v 3)) (qe_s qb_int) (nomark _)) (qss_one (qs_augS oi_add (qp_v 2) (qb_op o_sub (qb_v 3) qb_int) (qb_v 4))) qss_nil)) PassesOwn.never)
   (qss_one (qs_ret (qe_mv 2)))))
theorem ok_pairs_with_known (T : Tx t) : FnOk P w K mg base CX0 2 t.a_pairs_with_known t.d_pairs_with_known ["n", "i", "j"] (spD K 3 g_pairs_with_known) := by
 have G_all_names := ok_all_names (P := P) (w := w) (base := base) T
 refine fn_D (N := ["n", "i", "j", "both"]) (W := [3]) T.F_pairs_with_known sc_pairs_with_known (by decide) fun cdv A outer s H E hr => ?_
 have hu := hr.units
 exact (qss_cons (qs_set 3 sc_pairs_with_known.nd (qe_s (qb_op o_or (qb_op o_shl qb_int (qb_v 1)) (qb_op o_shl qb_int (qb_v 2)))))
   (qss_one (qs_ret (lc_e ["n", "i", "j", "both", "g"] (qi_r1 (by rfl) T.b_range (qa_cons (qe_op o_add (qe_call G_all_names (hr.mono (by decide)) (by rfl) T.m_all_names T.F_all_names.kp T.n_all_names (qm_bo 0 qm_nil)) (qe_s qb_int)) qa_nil)) (fun _ _ _ _ _ => by exact (qg_name 4 (show List.Nodup (["n", "i", "j", "both", "g"] : List Str) by decide +kernel))) (fun _ _ _ _ _ => by exact (qif_one (qt_cmp (o_eq hu) (qe_s (qb_op o_and (qb_v 4) (qb_v 3))) (qe_s qb_int) (nomark _)))) (fun _ _ _ _ _ => by exact (qe_tup (qa_cons (qe_s qb_str) (qa_cons (qe_s (qb_v 1)) (qa_cons (qe_s (qb_v 2)) (qa_cons (qe_s (qb_v 4)) qa_nil))))))))))
theorem ok__law_draws (T : Tx t) : FnOk P w K mg base CX0 2 t.a__law_draws t.d__law_draws ["_law_script", "_law_turn", "_law_many"] (spD K 3 g__law_draws) := by
 have G__law_mix := ok__law_mix (P := P) (w := w) (base := base) T
 refine fn_D (N := ["_law_script", "_law_turn", "_law_many", "_law_cells", "_law_lefts", "_law_found", "_law_k", "_law_at", "_law_number"]) (W := [3, 4, 5, 6, 7, 8, 8, 8]) T.F__law_draws sc__law_draws (by decide) fun cdv A outer s H E hr => ?_
 have hu := hr.units
 exact (qss_cons (qs_set 3 sc__law_draws.nd (qe_cat (qe_slB (qb_v 0) qo_none (qo_some qb_int)) (qe_lst (qa_cons (qe_s (qb_v 1)) qa_nil))))
   (qss_cons (lc_s 4 ["_law_script", "_law_turn", "_law_many", "_law_cells", "_law_lefts", "_law_found", "_law_k", "_law_at", "_law_number", "_law_cell"] sc__law_draws.nd (qi_lst (qe_cp 3)) (fun _ _ _ _ _ => by exact (qg_name 9 (show List.Nodup (["_law_script", "_law_turn", "_law_many", "_law_cells", "_law_lefts", "_law_found", "_law_k", "_law_at", "_law_number", "_law_cell"] : List Str) by decide +kernel))) (fun _ _ _ _ _ => by exact qif_nil) (fun _ _ _ _ _ => by exact (qe_s (qb_op o_fdv (qb_v 9) qb_int))))
   (qss_cons (qs_set 5 sc__law_draws.nd (qe_lst qa_nil))
   (qss_cons (qs_forI (by rfl) (qi_r1 (by rfl) T.b_range (qa_cons (qe_s (qb_op o_add (qb_v 1) (qb_v 2))) qa_nil)) (qg_name 6 sc__law_draws.nd) (qss_cons (qs_set 7 sc__law_draws.nd (qe_s (qb_op o_mod (qb_v 6) (qb_fn (id := "len") c_len (by rfl) T.b_len (by decide +kernel) (qba_cons (qb_v 3) qba_nil)))))
   (qss_cons (qs_set 8 sc__law_draws.nd (qe_call G__law_mix (hr.mono (by decide)) (by rfl) T.m__law_mix T.F__law_mix.kp T.n__law_mix (qm_ex (qe_s (qb_ix (qb_v 3) (qb_v 7))) (qm_bo 6 qm_nil))))
   (qss_cons (qs_set 8 sc__law_draws.nd (qe_s (qb_op o_mod (qb_op o_add (qb_op o_mul (qb_v 8) (qb_v 8)) (qb_op o_mul qb_int (qb_v 6))) qb_int)))
   (qss_cons (qs_if (qw_t (qw_and (qt_cmp o_ge (qe_s (qb_ix (qb_v 3) (qb_v 7))) (qe_s (qb_op o_pow qb_int qb_int)) (nomark _)) (qw_and1 (qt_cmp o_gt (qe_s (qb_ix (qb_v 4) (qb_v 7))) (qe_s qb_int) (nomark _))))) (qss_cons (qs_set 8 sc__law_draws.nd (qe_s (qb_op o_mod (qb_ix (qb_v 4) (qb_v 7)) qb_int)))
   (qss_one (qs_asg (qe_s (qb_op o_fdv (qb_ix (qb_v 4) (qb_v 7)) qb_int)) (qg_set (qp_v 4) (qb_v 7))))) qss_nil)
   (qss_one (qs_expr (qe_appP (qp_v 5) (qb_v 8)))))))) PassesOwn.never)
   (qss_one (qs_ret (qe_slB (qb_v 5) (qo_some (qb_v 1)) qo_none)))))))
theorem ok__law_rules (T : Tx t) : FnOk P w K mg base CX0 2 t.a__law_rules t.d__law_rules ["_law_n"] (spD K 1 g__law_rules) := by
 have G__law_row_of := ok__law_row_of (P := P) (w := w) (base := base) T
 refine fn_D (N := ["_law_n", "_law_whole", "_law_rows", "_law_i", "_law_j", "_law_one", "_law_other", "_law_g", "_law_terms"]) (W := [1, 2, 3, 4, 5, 6, 7, 8]) T.F__law_rules sc__law_rules (by decide) fun cdv A outer s H E hr => ?_
 have hu := hr.units
 exact (qss_cons (qs_set 1 sc__law_rules.nd (qe_s (qb_op o_sub (qb_op o_shl qb_int (qb_v 0)) qb_int)))
   (qss_cons (lc_s 2 ["_law_n", "_law_whole", "_law_rows", "_law_i", "_law_j", "_law_one", "_law_other", "_law_g", "_law_terms", "_law_k"] sc__law_rules.nd (qi_r1 (by rfl) T.b_range (qa_cons (qe_s (qb_v 0)) qa_nil)) (fun _ _ _ _ _ => by exact (qg_name 9 (show List.Nodup (["_law_n", "_law_whole", "_law_rows", "_law_i", "_law_j", "_law_one", "_law_other", "_law_g", "_law_terms", "_law_k"] : List Str) by decide +kernel))) (fun _ _ _ _ _ => by exact qif_nil) (fun _ _ _ _ _ => by exact (qe_call G__law_row_of (hr.mono (by decide)) (by rfl) T.m__law_row_of T.F__law_row_of.kp T.n__law_row_of (qm_bo 0 (qm_ex (qe_lst (qa_cons (qe_tup (qa_cons (qe_s (qb_v 1)) (qa_cons (qe_s qb_int) qa_nil))) (qa_cons (qe_tup (qa_cons (qe_s (qb_op o_sub (qb_v 1) (qb_op o_shl qb_int (qb_v 9)))) (qa_cons (qe_s (qb_neg qb_int)) qa_nil))) qa_nil))) qm_nil)))))
   (qss_cons (qs_forI (by rfl) (qi_r1 (by rfl) T.b_range (qa_cons (qe_s (qb_v 0)) qa_nil)) (qg_name 3 sc__law_rules.nd) (qss_one (qs_forI (by rfl) (qi_r2 (by rfl) T.b_range (qa_cons (qe_s (qb_op o_add (qb_v 3) qb_int)) (qa_cons (qe_s (qb_v 0)) qa_nil))) (qg_name 4 sc__law_rules.nd) (qss_cons (qs_set 5 sc__law_rules.nd (qe_s (qb_op o_shl qb_int (qb_v 3))))
   (qss_cons (qs_set 6 sc__law_rules.nd (qe_s (qb_op o_shl qb_int (qb_v 4))))
   (qss_one (qs_forI (by rfl) (qi_r1 (by rfl) T.b_range (qa_cons (qe_s (qb_op o_add (qb_v 1) qb_int)) qa_nil)) (qg_name 7 sc__law_rules.nd) (qss_one (qs_if (qt_cmp (o_eq hu) (qe_s (qb_op o_and (qb_v 7) (qb_op o_or (qb_v 5) (qb_v 6)))) (qe_s qb_int) (nomark _)) (qss_cons (qs_set 8 sc__law_rules.nd (qe_lst (qa_cons (qe_tup (qa_cons (qe_s (qb_op o_or (qb_v 7) (qb_v 5))) (qa_cons (qe_s qb_int) qa_nil))) (qa_cons (qe_tup (qa_cons (qe_s (qb_op o_or (qb_v 7) (qb_v 6))) (qa_cons (qe_s qb_int) qa_nil))) (qa_cons (qe_tup (qa_cons (qe_s (qb_op o_or (qb_op o_or (qb_v 7) (qb_v 5)) (qb_v 6))) (qa_cons (qe_s (qb_neg qb_int)) qa_nil))) (qa_cons (qe_tup (qa_cons (qe_s (qb_v 7)) (qa_cons (qe_s (qb_neg qb_int)) qa_nil))) qa_nil))))))
   (qss_one (qs_expr (qe_appV 2 (qe_call G__law_row_of (hr.mono (by decide)) (by rfl) T.m__law_row_of T.F__law_row_of.kp T.n__law_row_of (qm_bo 0 (qm_bo 8 qm_nil))))))) qss_nil)) PassesOwn.never)))) PassesOwn.never)) PassesOwn.never)
   (qss_one (qs_ret (qe_mv 2))))))
theorem ok__law_table (T : Tx t) : FnOk P w K mg base CX0 2 t.a__law_table t.d__law_table ["_law_n", "_law_draws_here"] (spD K 2 g__law_table) := by
 have G__law_bits := ok__law_bits (P := P) (w := w) (base := base) T
 have G__law_pop := ok__law_pop (P := P) (w := w) (base := base) T
 refine fn_D (N := ["_law_n", "_law_draws_here", "_law_table_here", "_law_k", "_law_number", "_law_mask", "_law_most", "_law_times", "_law_pair", "_law_four"]) (W := [2, 3, 4, 5, 6, 7, 2, 4, 8, 9, 2]) T.F__law_table sc__law_table (by decide) fun cdv A outer s H E hr => ?_
 have hu := hr.units
 exact (qss_cons (qs_set 2 sc__law_table.nd (lc_e ["_law_n", "_law_draws_here", "_law_table_here", "_law_k", "_law_number", "_law_mask", "_law_most", "_law_times", "_law_pair", "_law_four", "_law_group"] (qi_r1 (by rfl) T.b_range (qa_cons (qe_s (qb_op o_sub (qb_op o_shl qb_int (qb_v 0)) qb_int)) qa_nil)) (fun _ _ _ _ _ => by exact (qg_name 10 (show List.Nodup (["_law_n", "_law_draws_here", "_law_table_here", "_law_k", "_law_number", "_law_mask", "_law_most", "_law_times", "_law_pair", "_law_four", "_law_group"] : List Str) by decide +kernel))) (fun _ _ _ _ _ => by exact qif_nil) (fun _ _ _ _ _ => by exact (qe_s qb_int))))
   (qss_cons (qs_forI (by rfl) (qi_r1 (by rfl) T.b_range (qa_cons (qe_op o_mod (qe_call G__law_pop (hr.mono (by decide)) (by rfl) T.m__law_pop T.F__law_pop.kp T.n__law_pop (qm_bo 1 qm_nil)) (qe_s qb_int)) qa_nil)) (qg_name 3 sc__law_table.nd) (qss_cons (qs_set 4 sc__law_table.nd (qe_call G__law_pop (hr.mono (by decide)) (by rfl) T.m__law_pop T.F__law_pop.kp T.n__law_pop (qm_bo 1 qm_nil)))
   (qss_cons (qs_set 5 sc__law_table.nd (qe_s (qb_op o_mod (qb_v 4) (qb_op o_shl qb_int (qb_v 0)))))
   (qss_cons (qs_set 6 sc__law_table.nd (qe_s (qb_op o_add qb_int (qb_op o_mod (qb_op o_fdv (qb_v 4) qb_int) qb_int))))
   (qss_cons (qs_set 7 sc__law_table.nd (qe_s (qb_ix (qb_lst (qba_cons qb_int (qba_cons qb_int (qba_cons (qb_op o_add qb_int (qb_op o_mod (qb_op o_fdv (qb_v 4) qb_int) qb_int)) (qba_cons (qb_op o_add qb_int (qb_op o_fdv (qb_v 4) qb_int)) qba_nil))))) (qb_op o_mod (qb_op o_fdv (qb_v 4) qb_int) qb_int))))
   (qss_one (qs_set 2 sc__law_table.nd (lc_e ["_law_n", "_law_draws_here", "_law_table_here", "_law_k", "_law_number", "_law_mask", "_law_most", "_law_times", "_law_pair", "_law_four", "_law_g"] (qi_r1 (by rfl) T.b_range (qa_cons (qe_s (qb_fn (id := "len") c_len (by rfl) T.b_len (by decide +kernel) (qba_cons (qb_v 2) qba_nil))) qa_nil)) (fun _ _ _ _ _ => by exact (qg_name 10 (show List.Nodup (["_law_n", "_law_draws_here", "_law_table_here", "_law_k", "_law_number", "_law_mask", "_law_most", "_law_times", "_law_pair", "_law_four", "_law_g"] : List Str) by decide +kernel))) (fun _ _ _ _ _ => by exact qif_nil) (fun _ _ _ _ _ => by exact (qe_op o_add (qe_s (qb_ix (qb_v 2) (qb_v 10))) (qe_op o_mul (qe_s (qb_v 7)) (qe_fn (id := "min") (c_min2 (by rfl)) (by rfl) T.b_min (by decide +kernel) (qa_cons (qe_s (qb_v 6)) (qa_cons (qe_call G__law_bits (hr.mono (by decide)) (by rfl) T.m__law_bits T.F__law_bits.kp T.n__law_bits (qm_ex (qe_s (qb_op o_and (qb_v 5) (qb_op o_add (qb_v 10) qb_int))) qm_nil)) qa_nil))))))))))))) PassesOwn.never)
   (qss_cons (qs_set 4 sc__law_table.nd (qe_call G__law_pop (hr.mono (by decide)) (by rfl) T.m__law_pop T.F__law_pop.kp T.n__law_pop (qm_bo 1 qm_nil)))
   (qss_cons (qs_if (qw_t (qw_and (qt_cmp (o_eq hu) (qe_s (qb_v 0)) (qe_s qb_int) (nomark _)) (qw_and1 (qt_cmp (o_eq hu) (qe_s (qb_op o_mod (qb_v 4) qb_int)) (qe_s qb_int) (nomark _))))) (qss_cons (qs_set 8 sc__law_table.nd (qe_s (qb_ix (qb_lst (qba_cons qb_int (qba_cons qb_int (qba_cons qb_int (qba_cons qb_int (qba_cons qb_int (qba_cons qb_int qba_nil))))))) (qb_op o_mod (qb_op o_fdv (qb_v 4) qb_int) qb_int))))
   (qss_cons (qs_set 9 sc__law_table.nd (lc_e ["_law_n", "_law_draws_here", "_law_table_here", "_law_k", "_law_number", "_law_mask", "_law_most", "_law_times", "_law_pair", "_law_four", "_law_g"] (qi_r1 (by rfl) T.b_range (qa_cons (qe_s qb_int) qa_nil)) (fun _ _ _ _ _ => by exact (qg_name 10 (show List.Nodup (["_law_n", "_law_draws_here", "_law_table_here", "_law_k", "_law_number", "_law_mask", "_law_most", "_law_times", "_law_pair", "_law_four", "_law_g"] : List Str) by decide +kernel))) (fun _ _ _ _ _ => by exact qif_nil) (fun _ _ _ _ _ => by exact (qe_op o_add (qe_ix (qe_lst (qa_cons (qe_s qb_int) (qa_cons (qe_s qb_int) (qa_cons (qe_s qb_int) (qa_cons (qe_s qb_int) qa_nil))))) (qe_op o_sub (qe_call G__law_bits (hr.mono (by decide)) (by rfl) T.m__law_bits T.F__law_bits.kp T.n__law_bits (qm_ex (qe_s (qb_op o_add (qb_v 10) qb_int)) qm_nil)) (qe_s qb_int))) (qe_s (qb_ty (T := "int") c_int (by rfl) T.b_int (by decide +kernel) (qba_cons (qb_cmp (o_eq hu) (qb_op o_add (qb_v 10) qb_int) (qb_v 8) (nomark _)) qba_nil)))))))
   (qss_one (qs_set 2 sc__law_table.nd (lc_e ["_law_n", "_law_draws_here", "_law_table_here", "_law_k", "_law_number", "_law_mask", "_law_most", "_law_times", "_law_pair", "_law_four", "_law_g"] (qi_r1 (by rfl) T.b_range (qa_cons (qe_s qb_int) qa_nil)) (fun _ _ _ _ _ => by exact (qg_name 10 (show List.Nodup (["_law_n", "_law_draws_here", "_law_table_here", "_law_k", "_law_number", "_law_mask", "_law_most", "_law_times", "_law_pair", "_law_four", "_law_g"] : List Str) by decide +kernel))) (fun _ _ _ _ _ => by exact qif_nil) (fun _ _ _ _ _ => by exact (qe_s (qb_op o_add (qb_ix (qb_v 2) (qb_v 10)) (qb_ix (qb_v 9) (qb_v 10)))))))))) qss_nil)
   (qss_one (qs_ret (qe_mv 2)))))))
theorem ok_rest_row (T : Tx t) : FnOk P w K mg base CX0 3 t.a_rest_row t.d_rest_row ["n", "a", "b"] (spD K 3 g_rest_row) := by
 have G_row_of_terms := ok_row_of_terms (P := P) (w := w) (base := base) T
 refine fn_D (N := ["n", "a", "b"]) (W := []) T.F_rest_row sc_rest_row (by decide) fun cdv A outer s H E hr => ?_
 have hu := hr.units
 exact (qss_one (qs_ret (qe_call G_row_of_terms (hr.mono (by decide)) (by rfl) T.m_row_of_terms T.F_row_of_terms.kp T.n_row_of_terms (qm_bo 0 (qm_ex (qe_lst (qa_cons (qe_tup (qa_cons (qe_s (qb_op o_or (qb_v 1) (qb_v 2))) (qa_cons (qe_s qb_int) qa_nil))) (qa_cons (qe_tup (qa_cons (qe_s (qb_v 2)) (qa_cons (qe_s (qb_neg qb_int)) qa_nil))) qa_nil))) qm_nil)))))
theorem ok_shared_row (T : Tx t) : FnOk P w K mg base CX0 3 t.a_shared_row t.d_shared_row ["n", "a", "b", "c"] (spD K 4 g_shared_row) := by
 have G_row_of_terms := ok_row_of_terms (P := P) (w := w) (base := base) T
 refine fn_D (N := ["n", "a", "b", "c"]) (W := []) T.F_shared_row sc_shared_row (by decide) fun cdv A outer s H E hr => ?_
 have hu := hr.units
 exact (qss_one (qs_ret (qe_call G_row_of_terms (hr.mono (by decide)) (by rfl) T.m_row_of_terms T.F_row_of_terms.kp T.n_row_of_terms (qm_bo 0 (qm_ex (qe_lst (qa_cons (qe_tup (qa_cons (qe_s (qb_op o_or (qb_v 1) (qb_v 3))) (qa_cons (qe_s qb_int) qa_nil))) (qa_cons (qe_tup (qa_cons (qe_s (qb_op o_or (qb_v 2) (qb_v 3))) (qa_cons (qe_s qb_int) qa_nil))) (qa_cons (qe_tup (qa_cons (qe_s (qb_op o_or (qb_op o_or (qb_v 1) (qb_v 2)) (qb_v 3))) (qa_cons (qe_s (qb_neg qb_int)) qa_nil))) (qa_cons (qe_tup (qa_cons (qe_s (qb_v 3)) (qa_cons (qe_s (qb_neg qb_int)) qa_nil))) qa_nil))))) qm_nil)))))
theorem ok_rules (T : Tx t) : FnOk P w K mg base CX0 3 t.a_rules t.d_rules ["n"] (spD K 1 g_rules) := by
 have G_pairs_with_known := ok_pairs_with_known (P := P) (w := w) (base := base) T
 refine fn_D (N := ["n", "found", "i", "j"]) (W := [1, 2, 3]) T.F_rules sc_rules (by decide) fun cdv A outer s H E hr => ?_
 have hu := hr.units
 exact (qss_cons (lc_s 1 ["n", "found", "i", "j", "k"] sc_rules.nd (qi_r1 (by rfl) T.b_range (qa_cons (qe_s (qb_v 0)) qa_nil)) (fun _ _ _ _ _ => by exact (qg_name 4 (show List.Nodup (["n", "found", "i", "j", "k"] : List Str) by decide +kernel))) (fun _ _ _ _ _ => by exact qif_nil) (fun _ _ _ _ _ => by exact (qe_tup (qa_cons (qe_s qb_str) (qa_cons (qe_s (qb_v 4)) qa_nil)))))
   (qss_cons (qs_forI (by rfl) (qi_r1 (by rfl) T.b_range (qa_cons (qe_s (qb_v 0)) qa_nil)) (qg_name 2 sc_rules.nd) (qss_one (qs_forI (by rfl) (qi_r2 (by rfl) T.b_range (qa_cons (qe_s (qb_op o_add (qb_v 2) qb_int)) (qa_cons (qe_s (qb_v 0)) qa_nil))) (qg_name 3 sc_rules.nd) (qss_one (qs_expr (qe_extV 1 (qe_call G_pairs_with_known (hr.mono (by decide)) (by rfl) T.m_pairs_with_known T.F_pairs_with_known.kp T.n_pairs_with_known (qm_bo 0 (qm_bo 2 (qm_bo 3 qm_nil))))))) PassesOwn.never)) PassesOwn.never)
   (qss_one (qs_ret (qe_mv 1)))))
theorem ok_rule_row (T : Tx t) : FnOk P w K mg base CX0 4 t.a_rule_row t.d_rule_row ["n", "rule"] (spD K 2 g_rule_row) := by
 have G_all_names := ok_all_names (P := P) (w := w) (base := base) T
 have G_rest_row := ok_rest_row (P := P) (w := w) (base := base) T
 have G_shared_row := ok_shared_row (P := P) (w := w) (base := base) T
 refine fn_D (N := ["n", "rule", "one"]) (W := [2]) T.F_rule_row sc_rule_row (by decide) fun cdv A outer s H E hr => ?_
 have hu := hr.units
 exact (qss_cons (qs_set 2 sc_rule_row.nd (qe_s (qb_op o_shl qb_int (qb_ix (qb_v 1) qb_int))))
   (qss_cons (qs_if (qt_cmp (o_eq hu) (qe_s (qb_ix (qb_v 1) qb_int)) (qe_s qb_str) (nomark _)) (qss_one (qs_ret (qe_call G_rest_row (hr.mono (by decide)) (by rfl) T.m_rest_row T.F_rest_row.kp T.n_rest_row (qm_bo 0 (qm_bo 2 (qm_ex (qe_op o_sub (qe_call G_all_names (hr.mono (by decide)) (by rfl) T.m_all_names T.F_all_names.kp T.n_all_names (qm_bo 0 qm_nil)) (qe_s (qb_v 2))) qm_nil)))))) qss_nil)
   (qss_one (qs_ret (qe_call G_shared_row (hr.mono (by decide)) (by rfl) T.m_shared_row T.F_shared_row.kp T.n_shared_row (qm_bo 0 (qm_bo 2 (qm_ex (qe_s (qb_op o_shl qb_int (qb_ix (qb_v 1) qb_int))) (qm_ex (qe_s (qb_ix (qb_v 1) qb_int)) qm_nil)))))))))
theorem ok_rule_rows (T : Tx t) : FnOk P w K mg base CX0 5 t.a_rule_rows t.d_rule_rows ["n"] (spD K 1 g_rule_rows) := by
 have G_rule_row := ok_rule_row (P := P) (w := w) (base := base) T
 have G_rules := ok_rules (P := P) (w := w) (base := base) T
 refine fn_D (N := ["n"]) (W := []) T.F_rule_rows sc_rule_rows (by decide) fun cdv A outer s H E hr => ?_
 have hu := hr.units
 exact (qss_one (qs_ret (lc_e ["n", "rule"] (qi_lst (qe_call G_rules (hr.mono (by decide)) (by rfl) T.m_rules T.F_rules.kp T.n_rules (qm_bo 0 qm_nil))) (fun _ _ _ _ _ => by exact (qg_name 1 (show List.Nodup (["n", "rule"] : List Str) by decide +kernel))) (fun _ _ _ _ _ => by exact qif_nil) (fun _ _ _ _ _ => by exact (qe_call G_rule_row (hr.mono (by decide)) (by rfl) T.m_rule_row T.F_rule_row.kp T.n_rule_row (qm_bo 0 (qm_bo 1 qm_nil)))))))
theorem ok_keeps_rules (T : Tx t) : FnOk P w K mg base CX0 6 t.a_keeps_rules t.d_keeps_rules ["n", "table"] (spD K 2 g_keeps_rules) := by
 have G_rule_rows := ok_rule_rows (P := P) (w := w) (base := base) T
 have G_value := ok_value (P := P) (w := w) (base := base) T
 refine fn_D (N := ["n", "table"]) (W := []) T.F_keeps_rules sc_keeps_rules (by decide) fun cdv A outer s H E hr => ?_
 have hu := hr.units
 exact (qss_one (qs_ret (qe_fn (id := "all") (c_all (by rfl)) (by rfl) T.b_all (by decide +kernel) (qa_cons (lc_e ["n", "table", "row"] (qi_lst (qe_call G_rule_rows (hr.mono (by decide)) (by rfl) T.m_rule_rows T.F_rule_rows.kp T.n_rule_rows (qm_bo 0 qm_nil))) (fun _ _ _ _ _ => by exact (qg_name 2 (show List.Nodup (["n", "table", "row"] : List Str) by decide +kernel))) (fun _ _ _ _ _ => by exact qif_nil) (fun _ _ _ _ _ => by exact (qe_cmp o_ge (qe_call G_value (hr.mono (by decide)) (by rfl) T.m_value T.F_value.kp T.n_value (qm_bo 2 (qm_bo 1 qm_nil))) (qe_s qb_int) (nomark _)))) qa_nil))))
theorem ok_law (T : Tx t) {f : Addr} {fd : FuncData} (F : Fun K "law" "law" s_law f fd) : FnOk P w K mg base CX0 7 f fd ["_law_script"] (spD K 1 g_law) := by
 have G__law_draws := ok__law_draws (P := P) (w := w) (base := base) T
 have G__law_named := ok__law_named (P := P) (w := w) (base := base) T
 have G__law_pop := ok__law_pop (P := P) (w := w) (base := base) T
 have G__law_rules := ok__law_rules (P := P) (w := w) (base := base) T
 have G__law_table := ok__law_table (P := P) (w := w) (base := base) T
 have G__law_value := ok__law_value (P := P) (w := w) (base := base) T
 have G_keeps_rules := ok_keeps_rules (P := P) (w := w) (base := base) T
 have G_rule_row := ok_rule_row (P := P) (w := w) (base := base) T
 have G_rules := ok_rules (P := P) (w := w) (base := base) T
 refine fn_D (N := ["_law_script", "_law_draws_here", "_law_n", "_law_found", "_law_rows", "_law_turn", "_law_table_here", "_law_number", "_law_at", "_law_kept", "_law_told", "_law_due"]) (W := [1, 2, 3, 4, 5, 6, 7, 8, 9, 10, 11]) F sc_law (by decide) fun cdv A outer s H E hr => ?_
 have hu := hr.units
 exact (qss_cons (qs_set 1 sc_law.nd (qe_call G__law_draws (hr.mono (by decide)) (by rfl) T.m__law_draws T.F__law_draws.kp T.n__law_draws (qm_bo 0 (qm_ex (qe_s qb_int) (qm_ex (qe_s qb_int) qm_nil)))))
   (qss_cons (qs_forI (by rfl) (qi_lst (qe_lst (qa_cons (qe_s qb_int) (qa_cons (qe_s qb_int) (qa_cons (qe_s qb_int) (qa_cons (qe_s qb_int) qa_nil)))))) (qg_name 2 sc_law.nd) (qss_cons (qs_set 3 sc_law.nd (qe_call G_rules (hr.mono (by decide)) (by rfl) T.m_rules T.F_rules.kp T.n_rules (qm_bo 2 qm_nil)))
   (qss_cons (lcB_s 4 3 12 ["_law_script", "_law_draws_here", "_law_n", "_law_found", "_law_rows", "_law_turn", "_law_table_here", "_law_number", "_law_at", "_law_kept", "_law_told", "_law_due", "_law_rule"] sc_law.nd (show List.Nodup (["_law_script", "_law_draws_here", "_law_n", "_law_found", "_law_rows", "_law_turn", "_law_table_here", "_law_number", "_law_at", "_law_kept", "_law_told", "_law_due", "_law_rule"] : List Str) by decide +kernel) (fun _ _ _ _ _ => by exact qif_nil) (fun _ _ _ _ _ => by exact (qe_call G_rule_row (hr.mono (by decide)) (by rfl) T.m_rule_row T.F_rule_row.kp T.n_rule_row (qm_bo 2 (qm_ex (qe_cp 12) qm_nil)))))
   (qss_cons (qs_if (qt_cmp o_neS (qe_s (qb_ty (T := "str") (c_strL hr.gd (Nat.lt_of_le_of_lt (Nat.add_le_add_left (by decide : 60 ≤ 64) _) hu)) (by rfl) T.b_str (by decide +kernel) (qba_cons (qb_lst (qba_cons (qb_v 3) (qba_cons (qb_v 4) qba_nil))) qba_nil))) (qe_ty (T := "str") (c_strL hr.gd (Nat.lt_of_le_of_lt (Nat.add_le_add_left (by decide : 60 ≤ 64) _) hu)) (by rfl) T.b_str (by decide +kernel) (qa_cons (qe_lst (qa_cons (qe_call G__law_named (hr.mono (by decide)) (by rfl) T.m__law_named T.F__law_named.kp T.n__law_named (qm_bo 2 qm_nil)) (qa_cons (qe_call G__law_rules (hr.mono (by decide)) (by rfl) T.m__law_rules T.F__law_rules.kp T.n__law_rules (qm_bo 2 qm_nil)) qa_nil))) qa_nil)) (nomark _)) qss_never qss_nil)
   (qss_cons (qs_expr (qe_clrV 3))
   (qss_cons (qs_expr (qe_appP (qp_ix (qp_v 4) qb_int) qb_int))
   (qss_cons (qs_if (qw_t (qw_or (qt_cmp (o_ne hu) (qe_call G_rules (hr.mono (by decide)) (by rfl) T.m_rules T.F_rules.kp T.n_rules (qm_bo 2 qm_nil)) (qe_call G__law_named (hr.mono (by decide)) (by rfl) T.m__law_named T.F__law_named.kp T.n__law_named (qm_bo 2 qm_nil)) (nomark _)) (qw_or1 (qt_cmp (o_ne hu) (qe_call G_rule_row (hr.mono (by decide)) (by rfl) T.m_rule_row T.F_rule_row.kp T.n_rule_row (qm_bo 2 (qm_ex (qe_tup (qa_cons (qe_s qb_str) (qa_cons (qe_s qb_int) qa_nil))) qm_nil))) (qe_ix (qe_call G__law_rules (hr.mono (by decide)) (by rfl) T.m__law_rules T.F__law_rules.kp T.n__law_rules (qm_bo 2 qm_nil)) (qe_s qb_int)) (nomark _))))) qss_never qss_nil)
   (qss_one (qs_forI (by rfl) (qi_r1 (by rfl) T.b_range (qa_cons (qe_s qb_int) qa_nil)) (qg_name 5 sc_law.nd) (qss_cons (qs_set 6 sc_law.nd (qe_call G__law_table (hr.mono (by decide)) (by rfl) T.m__law_table T.F__law_table.kp T.n__law_table (qm_bo 2 (qm_bo 1 qm_nil))))
   (qss_cons (qs_set 7 sc_law.nd (qe_call G__law_pop (hr.mono (by decide)) (by rfl) T.m__law_pop T.F__law_pop.kp T.n__law_pop (qm_bo 1 qm_nil)))
   (qss_cons (qs_if (qt_cmp o_gt (qe_s (qb_op o_mod (qb_v 7) qb_int)) (qe_s qb_int) (nomark _)) (qss_cons (qs_set 8 sc_law.nd (qe_s (qb_op o_mod (qb_op o_fdv (qb_v 7) qb_int) (qb_fn (id := "len") c_len (by rfl) T.b_len (by decide +kernel) (qba_cons (qb_v 6) qba_nil)))))
   (qss_one (qs_asg (qe_s (qb_op o_add (qb_ix (qb_v 6) (qb_v 8)) (qb_ix (qb_lst (qba_cons qb_int (qba_cons (qb_neg qb_int) (qba_cons (qb_v 7) (qba_cons (qb_neg qb_int) qba_nil))))) (qb_op o_mod (qb_op o_fdv (qb_v 7) qb_int) qb_int)))) (qg_set (qp_v 6) (qb_v 8))))) qss_nil)
   (qss_cons (qs_set 9 sc_law.nd (qe_listB (by rfl) T.b_list (by decide +kernel) (qb_v 6)))
   (qss_cons (qs_set 10 sc_law.nd (qe_call G_keeps_rules (hr.mono (by decide)) (by rfl) T.m_keeps_rules T.F_keeps_rules.kp T.n_keeps_rules (qm_bo 2 (qm_bo 6 qm_nil))))
   (qss_cons (qs_set 11 sc_law.nd (qe_cmp (o_eq hu) (lc_e ["_law_script", "_law_draws_here", "_law_n", "_law_found", "_law_rows", "_law_turn", "_law_table_here", "_law_number", "_law_at", "_law_kept", "_law_told", "_law_due", "_law_row"] (qi_lst (qe_call G__law_rules (hr.mono (by decide)) (by rfl) T.m__law_rules T.F__law_rules.kp T.n__law_rules (qm_bo 2 qm_nil))) (fun _ _ _ _ _ => by exact (qg_name 12 (show List.Nodup (["_law_script", "_law_draws_here", "_law_n", "_law_found", "_law_rows", "_law_turn", "_law_table_here", "_law_number", "_law_at", "_law_kept", "_law_told", "_law_due", "_law_row"] : List Str) by decide +kernel))) (fun _ _ _ _ _ => by exact (qif_one (qt_cmp o_lt (qe_call G__law_value (hr.mono (by decide)) (by rfl) T.m__law_value T.F__law_value.kp T.n__law_value (qm_ex (qe_cp 12) (qm_bo 6 qm_nil))) (qe_s qb_int) (nomark _)))) (fun _ _ _ _ _ => by exact (qe_cp 12))) (qe_lst qa_nil) (nomark _)))
   (qss_one (qs_if (qw_t (qw_or (qt_not (qt_e (qe_s (qb_fn (id := "isinstance") c_isi (by rfl) T.b_isinstance (by decide +kernel) (qba_cons (qb_v 10) (qba_cons (qb_tyname (T := "bool") (by rfl) T.b_bool (by decide +kernel)) qba_nil)))))) (qw_or (qt_cmp (o_ne hu) (qe_s (qb_v 10)) (qe_s (qb_v 11)) (nomark _)) (qw_or1 (qt_cmpB (o_ne hu) (qb_v 6) (qb_v 9) (nomark _)))))) qss_never qss_nil)))))))) PassesOwn.never)))))))) PassesOwn.never)
   (qss_one (qs_ret (qe_s qb_bl)))))
end
theorem all_mk {l : PySem.W.OpenLaw} {w : World} {K : PySem.W.Frag} {h : Heap} {mg : Str → Option Value} {fa : Addr} (X : K.In h) (G : h.Ns mainGlobals mg) (hfa : mg "law" = some (.ref fa))
  {f0 : Addr} {od0 an0 : Option Addr} {sl0 : Array (Option Value)} {oc0 kV0 dc0 pm0 cd0 ct0 : Value}
  {f1 : Addr} {od1 an1 : Option Addr} {sl1 : Array (Option Value)} {oc1 kV1 dc1 pm1 cd1 ct1 : Value}
  {f2 : Addr} {od2 an2 : Option Addr} {sl2 : Array (Option Value)} {oc2 kV2 dc2 pm2 cd2 ct2 : Value}
  {f3 : Addr} {od3 an3 : Option Addr} {sl3 : Array (Option Value)} {oc3 kV3 dc3 pm3 cd3 ct3 : Value}
  {f4 : Addr} {od4 an4 : Option Addr} {sl4 : Array (Option Value)} {oc4 kV4 dc4 pm4 cd4 ct4 : Value}
  {f5 : Addr} {od5 an5 : Option Addr} {sl5 : Array (Option Value)} {oc5 kV5 dc5 pm5 cd5 ct5 : Value}
  {f6 : Addr} {od6 an6 : Option Addr} {sl6 : Array (Option Value)} {oc6 kV6 dc6 pm6 cd6 ct6 : Value}
  {f7 : Addr} {od7 an7 : Option Addr} {sl7 : Array (Option Value)} {oc7 kV7 dc7 pm7 cd7 ct7 : Value}
  {f8 : Addr} {od8 an8 : Option Addr} {sl8 : Array (Option Value)} {oc8 kV8 dc8 pm8 cd8 ct8 : Value}
  {f9 : Addr} {od9 an9 : Option Addr} {sl9 : Array (Option Value)} {oc9 kV9 dc9 pm9 cd9 ct9 : Value}
  {f10 : Addr} {od10 an10 : Option Addr} {sl10 : Array (Option Value)} {oc10 kV10 dc10 pm10 cd10 ct10 : Value}
  {f11 : Addr} {od11 an11 : Option Addr} {sl11 : Array (Option Value)} {oc11 kV11 dc11 pm11 cd11 ct11 : Value}
  {f12 : Addr} {od12 an12 : Option Addr} {sl12 : Array (Option Value)} {oc12 kV12 dc12 pm12 cd12 ct12 : Value}
  {f13 : Addr} {od13 an13 : Option Addr} {sl13 : Array (Option Value)} {oc13 kV13 dc13 pm13 cd13 ct13 : Value}
  {f14 : Addr} {od14 an14 : Option Addr} {sl14 : Array (Option Value)} {oc14 kV14 dc14 pm14 cd14 ct14 : Value}
  {f15 : Addr} {od15 an15 : Option Addr} {sl15 : Array (Option Value)} {oc15 kV15 dc15 pm15 cd15 ct15 : Value}
  {f16 : Addr} {od16 an16 : Option Addr} {sl16 : Array (Option Value)} {oc16 kV16 dc16 pm16 cd16 ct16 : Value}
  {f17 : Addr} {od17 an17 : Option Addr} {sl17 : Array (Option Value)} {oc17 kV17 dc17 pm17 cd17 ct17 : Value}
  {f18 : Addr} {od18 an18 : Option Addr} {sl18 : Array (Option Value)} {oc18 kV18 dc18 pm18 cd18 ct18 : Value}
  {f19 : Addr} {od19 an19 : Option Addr} {sl19 : Array (Option Value)} {oc19 kV19 dc19 pm19 cd19 ct19 : Value}
  (a0 : PySem.W.nsIn K mainGlobals "all_names" = some (some (.ref f0))) (l0 : K.lookup f0 = some ⟨oc0, od0, .func (PySem.W.fnOf "all_names" "all_names" (defArgs s_all_names) (defBody s_all_names) (defScope s_all_names) .none kV0 dc0 pm0 an0 cd0 ct0), sl0⟩) (c0 : PySem.W.codeIn K cd0 "all_names" = true) (k0 : PySem.W.keepIn K (.ref f0) = true)
  (a1 : PySem.W.nsIn K mainGlobals "value" = some (some (.ref f1))) (l1 : K.lookup f1 = some ⟨oc1, od1, .func (PySem.W.fnOf "value" "value" (defArgs s_value) (defBody s_value) (defScope s_value) .none kV1 dc1 pm1 an1 cd1 ct1), sl1⟩) (c1 : PySem.W.codeIn K cd1 "value" = true) (k1 : PySem.W.keepIn K (.ref f1) = true)
  (a2 : PySem.W.nsIn K mainGlobals "_law_mix" = some (some (.ref f2))) (l2 : K.lookup f2 = some ⟨oc2, od2, .func (PySem.W.fnOf "_law_mix" "_law_mix" (defArgs s__law_mix) (defBody s__law_mix) (defScope s__law_mix) .none kV2 dc2 pm2 an2 cd2 ct2), sl2⟩) (c2 : PySem.W.codeIn K cd2 "_law_mix" = true) (k2 : PySem.W.keepIn K (.ref f2) = true)
  (a3 : PySem.W.nsIn K mainGlobals "_law_pop" = some (some (.ref f3))) (l3 : K.lookup f3 = some ⟨oc3, od3, .func (PySem.W.fnOf "_law_pop" "_law_pop" (defArgs s__law_pop) (defBody s__law_pop) (defScope s__law_pop) .none kV3 dc3 pm3 an3 cd3 ct3), sl3⟩) (c3 : PySem.W.codeIn K cd3 "_law_pop" = true) (k3 : PySem.W.keepIn K (.ref f3) = true)
  (a4 : PySem.W.nsIn K mainGlobals "_law_row_of" = some (some (.ref f4))) (l4 : K.lookup f4 = some ⟨oc4, od4, .func (PySem.W.fnOf "_law_row_of" "_law_row_of" (defArgs s__law_row_of) (defBody s__law_row_of) (defScope s__law_row_of) .none kV4 dc4 pm4 an4 cd4 ct4), sl4⟩) (c4 : PySem.W.codeIn K cd4 "_law_row_of" = true) (k4 : PySem.W.keepIn K (.ref f4) = true)
  (a5 : PySem.W.nsIn K mainGlobals "_law_value" = some (some (.ref f5))) (l5 : K.lookup f5 = some ⟨oc5, od5, .func (PySem.W.fnOf "_law_value" "_law_value" (defArgs s__law_value) (defBody s__law_value) (defScope s__law_value) .none kV5 dc5 pm5 an5 cd5 ct5), sl5⟩) (c5 : PySem.W.codeIn K cd5 "_law_value" = true) (k5 : PySem.W.keepIn K (.ref f5) = true)
  (a6 : PySem.W.nsIn K mainGlobals "_law_bits" = some (some (.ref f6))) (l6 : K.lookup f6 = some ⟨oc6, od6, .func (PySem.W.fnOf "_law_bits" "_law_bits" (defArgs s__law_bits) (defBody s__law_bits) (defScope s__law_bits) .none kV6 dc6 pm6 an6 cd6 ct6), sl6⟩) (c6 : PySem.W.codeIn K cd6 "_law_bits" = true) (k6 : PySem.W.keepIn K (.ref f6) = true)
  (a7 : PySem.W.nsIn K mainGlobals "_law_named" = some (some (.ref f7))) (l7 : K.lookup f7 = some ⟨oc7, od7, .func (PySem.W.fnOf "_law_named" "_law_named" (defArgs s__law_named) (defBody s__law_named) (defScope s__law_named) .none kV7 dc7 pm7 an7 cd7 ct7), sl7⟩) (c7 : PySem.W.codeIn K cd7 "_law_named" = true) (k7 : PySem.W.keepIn K (.ref f7) = true)
  (a8 : PySem.W.nsIn K mainGlobals "row_of_terms" = some (some (.ref f8))) (l8 : K.lookup f8 = some ⟨oc8, od8, .func (PySem.W.fnOf "row_of_terms" "row_of_terms" (defArgs s_row_of_terms) (defBody s_row_of_terms) (defScope s_row_of_terms) .none kV8 dc8 pm8 an8 cd8 ct8), sl8⟩) (c8 : PySem.W.codeIn K cd8 "row_of_terms" = true) (k8 : PySem.W.keepIn K (.ref f8) = true)
  (a9 : PySem.W.nsIn K mainGlobals "pairs_with_known" = some (some (.ref f9))) (l9 : K.lookup f9 = some ⟨oc9, od9, .func (PySem.W.fnOf "pairs_with_known" "pairs_with_known" (defArgs s_pairs_with_known) (defBody s_pairs_with_known) (defScope s_pairs_with_known) .none kV9 dc9 pm9 an9 cd9 ct9), sl9⟩) (c9 : PySem.W.codeIn K cd9 "pairs_with_known" = true) (k9 : PySem.W.keepIn K (.ref f9) = true)
  (a10 : PySem.W.nsIn K mainGlobals "_law_draws" = some (some (.ref f10))) (l10 : K.lookup f10 = some ⟨oc10, od10, .func (PySem.W.fnOf "_law_draws" "_law_draws" (defArgs s__law_draws) (defBody s__law_draws) (defScope s__law_draws) .none kV10 dc10 pm10 an10 cd10 ct10), sl10⟩) (c10 : PySem.W.codeIn K cd10 "_law_draws" = true) (k10 : PySem.W.keepIn K (.ref f10) = true)
  (a11 : PySem.W.nsIn K mainGlobals "_law_rules" = some (some (.ref f11))) (l11 : K.lookup f11 = some ⟨oc11, od11, .func (PySem.W.fnOf "_law_rules" "_law_rules" (defArgs s__law_rules) (defBody s__law_rules) (defScope s__law_rules) .none kV11 dc11 pm11 an11 cd11 ct11), sl11⟩) (c11 : PySem.W.codeIn K cd11 "_law_rules" = true) (k11 : PySem.W.keepIn K (.ref f11) = true)
  (a12 : PySem.W.nsIn K mainGlobals "_law_table" = some (some (.ref f12))) (l12 : K.lookup f12 = some ⟨oc12, od12, .func (PySem.W.fnOf "_law_table" "_law_table" (defArgs s__law_table) (defBody s__law_table) (defScope s__law_table) .none kV12 dc12 pm12 an12 cd12 ct12), sl12⟩) (c12 : PySem.W.codeIn K cd12 "_law_table" = true) (k12 : PySem.W.keepIn K (.ref f12) = true)
  (a13 : PySem.W.nsIn K mainGlobals "rest_row" = some (some (.ref f13))) (l13 : K.lookup f13 = some ⟨oc13, od13, .func (PySem.W.fnOf "rest_row" "rest_row" (defArgs s_rest_row) (defBody s_rest_row) (defScope s_rest_row) .none kV13 dc13 pm13 an13 cd13 ct13), sl13⟩) (c13 : PySem.W.codeIn K cd13 "rest_row" = true) (k13 : PySem.W.keepIn K (.ref f13) = true)
  (a14 : PySem.W.nsIn K mainGlobals "shared_row" = some (some (.ref f14))) (l14 : K.lookup f14 = some ⟨oc14, od14, .func (PySem.W.fnOf "shared_row" "shared_row" (defArgs s_shared_row) (defBody s_shared_row) (defScope s_shared_row) .none kV14 dc14 pm14 an14 cd14 ct14), sl14⟩) (c14 : PySem.W.codeIn K cd14 "shared_row" = true) (k14 : PySem.W.keepIn K (.ref f14) = true)
  (a15 : PySem.W.nsIn K mainGlobals "rules" = some (some (.ref f15))) (l15 : K.lookup f15 = some ⟨oc15, od15, .func (PySem.W.fnOf "rules" "rules" (defArgs s_rules) (defBody s_rules) (defScope s_rules) .none kV15 dc15 pm15 an15 cd15 ct15), sl15⟩) (c15 : PySem.W.codeIn K cd15 "rules" = true) (k15 : PySem.W.keepIn K (.ref f15) = true)
  (a16 : PySem.W.nsIn K mainGlobals "rule_row" = some (some (.ref f16))) (l16 : K.lookup f16 = some ⟨oc16, od16, .func (PySem.W.fnOf "rule_row" "rule_row" (defArgs s_rule_row) (defBody s_rule_row) (defScope s_rule_row) .none kV16 dc16 pm16 an16 cd16 ct16), sl16⟩) (c16 : PySem.W.codeIn K cd16 "rule_row" = true) (k16 : PySem.W.keepIn K (.ref f16) = true)
  (a17 : PySem.W.nsIn K mainGlobals "rule_rows" = some (some (.ref f17))) (l17 : K.lookup f17 = some ⟨oc17, od17, .func (PySem.W.fnOf "rule_rows" "rule_rows" (defArgs s_rule_rows) (defBody s_rule_rows) (defScope s_rule_rows) .none kV17 dc17 pm17 an17 cd17 ct17), sl17⟩) (c17 : PySem.W.codeIn K cd17 "rule_rows" = true) (k17 : PySem.W.keepIn K (.ref f17) = true)
  (a18 : PySem.W.nsIn K mainGlobals "keeps_rules" = some (some (.ref f18))) (l18 : K.lookup f18 = some ⟨oc18, od18, .func (PySem.W.fnOf "keeps_rules" "keeps_rules" (defArgs s_keeps_rules) (defBody s_keeps_rules) (defScope s_keeps_rules) .none kV18 dc18 pm18 an18 cd18 ct18), sl18⟩) (c18 : PySem.W.codeIn K cd18 "keeps_rules" = true) (k18 : PySem.W.keepIn K (.ref f18) = true)
  (a19 : PySem.W.nsIn K mainGlobals "law" = some (some (.ref f19))) (l19 : K.lookup f19 = some ⟨oc19, od19, .func (PySem.W.fnOf "law" "law" (defArgs s_law) (defBody s_law) (defScope s_law) .none kV19 dc19 pm19 an19 cd19 ct19), sl19⟩) (c19 : PySem.W.codeIn K cd19 "law" = true) (k19 : PySem.W.keepIn K (.ref f19) = true)
  (z_all : PySem.W.nsIn K mainGlobals "all" = some none)
  (z_bool : PySem.W.nsIn K mainGlobals "bool" = some none)
  (z_int : PySem.W.nsIn K mainGlobals "int" = some none)
  (z_isinstance : PySem.W.nsIn K mainGlobals "isinstance" = some none)
  (z_len : PySem.W.nsIn K mainGlobals "len" = some none)
  (z_list : PySem.W.nsIn K mainGlobals "list" = some none)
  (z_min : PySem.W.nsIn K mainGlobals "min" = some none)
  (z_range : PySem.W.nsIn K mainGlobals "range" = some none)
  (z_str : PySem.W.nsIn K mainGlobals "str" = some none)
  (z_sum : PySem.W.nsIn K mainGlobals "sum" = some none)
  (z_zip : PySem.W.nsIn K mainGlobals "zip" = some none)
  : ∃ fd : FuncData, (∀ (s : Shared) (v : Value), BindsTo s fd ⟨[v], []⟩ [("_law_script", v)]) ∧ ∀ base : Heap, K.In base → base.Ns mainGlobals mg → FnOk l.prog w K mg base CX0 7 fa fd ["_law_script"] (spD K 1 g_law) := by
 have e := hfa.symm.trans (PySem.W.mg_of X G a19)
 cases e
 have F0 := fun_mk (st := s_all_names) l0 c0 k0
 have b0 := F0.binds (ps := ["n"]) fun _ _ _ _ _ _ us hl => by rcases us with _ | ⟨_, _ | ⟨_, us⟩⟩ <;> first | rfl | (simp at hl) | cases hl
 have F1 := fun_mk (st := s_value) l1 c1 k1
 have b1 := F1.binds (ps := ["row", "table"]) fun _ _ _ _ _ _ us hl => by rcases us with _ | ⟨_, _ | ⟨_, _ | ⟨_, us⟩⟩⟩ <;> first | rfl | (simp at hl) | cases hl
 have F2 := fun_mk (st := s__law_mix) l2 c2 k2
 have b2 := F2.binds (ps := ["_law_cell", "_law_turn"]) fun _ _ _ _ _ _ us hl => by rcases us with _ | ⟨_, _ | ⟨_, _ | ⟨_, us⟩⟩⟩ <;> first | rfl | (simp at hl) | cases hl
 have F3 := fun_mk (st := s__law_pop) l3 c3 k3
 have b3 := F3.binds (ps := ["_law_draws_here"]) fun _ _ _ _ _ _ us hl => by rcases us with _ | ⟨_, _ | ⟨_, us⟩⟩ <;> first | rfl | (simp at hl) | cases hl
 have F4 := fun_mk (st := s__law_row_of) l4 c4 k4
 have b4 := F4.binds (ps := ["_law_n", "_law_terms"]) fun _ _ _ _ _ _ us hl => by rcases us with _ | ⟨_, _ | ⟨_, _ | ⟨_, us⟩⟩⟩ <;> first | rfl | (simp at hl) | cases hl
 have F5 := fun_mk (st := s__law_value) l5 c5 k5
 have b5 := F5.binds (ps := ["_law_row", "_law_table_here"]) fun _ _ _ _ _ _ us hl => by rcases us with _ | ⟨_, _ | ⟨_, _ | ⟨_, us⟩⟩⟩ <;> first | rfl | (simp at hl) | cases hl
 have F6 := fun_mk (st := s__law_bits) l6 c6 k6
 have b6 := F6.binds (ps := ["_law_group"]) fun _ _ _ _ _ _ us hl => by rcases us with _ | ⟨_, _ | ⟨_, us⟩⟩ <;> first | rfl | (simp at hl) | cases hl
 have F7 := fun_mk (st := s__law_named) l7 c7 k7
 have b7 := F7.binds (ps := ["_law_n"]) fun _ _ _ _ _ _ us hl => by rcases us with _ | ⟨_, _ | ⟨_, us⟩⟩ <;> first | rfl | (simp at hl) | cases hl
 have F8 := fun_mk (st := s_row_of_terms) l8 c8 k8
 have b8 := F8.binds (ps := ["n", "terms"]) fun _ _ _ _ _ _ us hl => by rcases us with _ | ⟨_, _ | ⟨_, _ | ⟨_, us⟩⟩⟩ <;> first | rfl | (simp at hl) | cases hl
 have F9 := fun_mk (st := s_pairs_with_known) l9 c9 k9
 have b9 := F9.binds (ps := ["n", "i", "j"]) fun _ _ _ _ _ _ us hl => by rcases us with _ | ⟨_, _ | ⟨_, _ | ⟨_, _ | ⟨_, us⟩⟩⟩⟩ <;> first | rfl | (simp at hl) | cases hl
 have F10 := fun_mk (st := s__law_draws) l10 c10 k10
 have b10 := F10.binds (ps := ["_law_script", "_law_turn", "_law_many"]) fun _ _ _ _ _ _ us hl => by rcases us with _ | ⟨_, _ | ⟨_, _ | ⟨_, _ | ⟨_, us⟩⟩⟩⟩ <;> first | rfl | (simp at hl) | cases hl
 have F11 := fun_mk (st := s__law_rules) l11 c11 k11
 have b11 := F11.binds (ps := ["_law_n"]) fun _ _ _ _ _ _ us hl => by rcases us with _ | ⟨_, _ | ⟨_, us⟩⟩ <;> first | rfl | (simp at hl) | cases hl
 have F12 := fun_mk (st := s__law_table) l12 c12 k12
 have b12 := F12.binds (ps := ["_law_n", "_law_draws_here"]) fun _ _ _ _ _ _ us hl => by rcases us with _ | ⟨_, _ | ⟨_, _ | ⟨_, us⟩⟩⟩ <;> first | rfl | (simp at hl) | cases hl
 have F13 := fun_mk (st := s_rest_row) l13 c13 k13
 have b13 := F13.binds (ps := ["n", "a", "b"]) fun _ _ _ _ _ _ us hl => by rcases us with _ | ⟨_, _ | ⟨_, _ | ⟨_, _ | ⟨_, us⟩⟩⟩⟩ <;> first | rfl | (simp at hl) | cases hl
 have F14 := fun_mk (st := s_shared_row) l14 c14 k14
 have b14 := F14.binds (ps := ["n", "a", "b", "c"]) fun _ _ _ _ _ _ us hl => by rcases us with _ | ⟨_, _ | ⟨_, _ | ⟨_, _ | ⟨_, _ | ⟨_, us⟩⟩⟩⟩⟩ <;> first | rfl | (simp at hl) | cases hl
 have F15 := fun_mk (st := s_rules) l15 c15 k15
 have b15 := F15.binds (ps := ["n"]) fun _ _ _ _ _ _ us hl => by rcases us with _ | ⟨_, _ | ⟨_, us⟩⟩ <;> first | rfl | (simp at hl) | cases hl
 have F16 := fun_mk (st := s_rule_row) l16 c16 k16
 have b16 := F16.binds (ps := ["n", "rule"]) fun _ _ _ _ _ _ us hl => by rcases us with _ | ⟨_, _ | ⟨_, _ | ⟨_, us⟩⟩⟩ <;> first | rfl | (simp at hl) | cases hl
 have F17 := fun_mk (st := s_rule_rows) l17 c17 k17
 have b17 := F17.binds (ps := ["n"]) fun _ _ _ _ _ _ us hl => by rcases us with _ | ⟨_, _ | ⟨_, us⟩⟩ <;> first | rfl | (simp at hl) | cases hl
 have F18 := fun_mk (st := s_keeps_rules) l18 c18 k18
 have b18 := F18.binds (ps := ["n", "table"]) fun _ _ _ _ _ _ us hl => by rcases us with _ | ⟨_, _ | ⟨_, _ | ⟨_, us⟩⟩⟩ <;> first | rfl | (simp at hl) | cases hl
 have F19 := fun_mk (st := s_law) l19 c19 k19
 let t : Txt K mg := ⟨f0, PySem.W.fnOf "all_names" "all_names" (defArgs s_all_names) (defBody s_all_names) (defScope s_all_names) .none kV0 dc0 pm0 an0 cd0 ct0, f1, PySem.W.fnOf "value" "value" (defArgs s_value) (defBody s_value) (defScope s_value) .none kV1 dc1 pm1 an1 cd1 ct1, f2, PySem.W.fnOf "_law_mix" "_law_mix" (defArgs s__law_mix) (defBody s__law_mix) (defScope s__law_mix) .none kV2 dc2 pm2 an2 cd2 ct2, f3, PySem.W.fnOf "_law_pop" "_law_pop" (defArgs s__law_pop) (defBody s__law_pop) (defScope s__law_pop) .none kV3 dc3 pm3 an3 cd3 ct3, f4, PySem.W.fnOf "_law_row_of" "_law_row_of" (defArgs s__law_row_of) (defBody s__law_row_of) (defScope s__law_row_of) .none kV4 dc4 pm4 an4 cd4 ct4, f5, PySem.W.fnOf "_law_value" "_law_value" (defArgs s__law_value) (defBody s__law_value) (defScope s__law_value) .none kV5 dc5 pm5 an5 cd5 ct5, f6, PySem.W.fnOf "_law_bits" "_law_bits" (defArgs s__law_bits) (defBody s__law_bits) (defScope s__law_bits) .none kV6 dc6 pm6 an6 cd6 ct6, f7, PySem.W.fnOf "_law_named" "_law_named" (defArgs s__law_named) (defBody s__law_named) (defScope s__law_named) .none kV7 dc7 pm7 an7 cd7 ct7, f8, PySem.W.fnOf "row_of_terms" "row_of_terms" (defArgs s_row_of_terms) (defBody s_row_of_terms) (defScope s_row_of_terms) .none kV8 dc8 pm8 an8 cd8 ct8, f9, PySem.W.fnOf "pairs_with_known" "pairs_with_known" (defArgs s_pairs_with_known) (defBody s_pairs_with_known) (defScope s_pairs_with_known) .none kV9 dc9 pm9 an9 cd9 ct9, f10, PySem.W.fnOf "_law_draws" "_law_draws" (defArgs s__law_draws) (defBody s__law_draws) (defScope s__law_draws) .none kV10 dc10 pm10 an10 cd10 ct10, f11, PySem.W.fnOf "_law_rules" "_law_rules" (defArgs s__law_rules) (defBody s__law_rules) (defScope s__law_rules) .none kV11 dc11 pm11 an11 cd11 ct11, f12, PySem.W.fnOf "_law_table" "_law_table" (defArgs s__law_table) (defBody s__law_table) (defScope s__law_table) .none kV12 dc12 pm12 an12 cd12 ct12, f13, PySem.W.fnOf "rest_row" "rest_row" (defArgs s_rest_row) (defBody s_rest_row) (defScope s_rest_row) .none kV13 dc13 pm13 an13 cd13 ct13, f14, PySem.W.fnOf "shared_row" "shared_row" (defArgs s_shared_row) (defBody s_shared_row) (defScope s_shared_row) .none kV14 dc14 pm14 an14 cd14 ct14, f15, PySem.W.fnOf "rules" "rules" (defArgs s_rules) (defBody s_rules) (defScope s_rules) .none kV15 dc15 pm15 an15 cd15 ct15, f16, PySem.W.fnOf "rule_row" "rule_row" (defArgs s_rule_row) (defBody s_rule_row) (defScope s_rule_row) .none kV16 dc16 pm16 an16 cd16 ct16, f17, PySem.W.fnOf "rule_rows" "rule_rows" (defArgs s_rule_rows) (defBody s_rule_rows) (defScope s_rule_rows) .none kV17 dc17 pm17 an17 cd17 ct17, f18, PySem.W.fnOf "keeps_rules" "keeps_rules" (defArgs s_keeps_rules) (defBody s_keeps_rules) (defScope s_keeps_rules) .none kV18 dc18 pm18 an18 cd18 ct18⟩
 have T : Tx t := ⟨F0, PySem.W.mg_of X G a0, b0, F1, PySem.W.mg_of X G a1, b1, F2, PySem.W.mg_of X G a2, b2, F3, PySem.W.mg_of X G a3, b3, F4, PySem.W.mg_of X G a4, b4, F5, PySem.W.mg_of X G a5, b5, F6, PySem.W.mg_of X G a6, b6, F7, PySem.W.mg_of X G a7, b7, F8, PySem.W.mg_of X G a8, b8, F9, PySem.W.mg_of X G a9, b9, F10, PySem.W.mg_of X G a10, b10, F11, PySem.W.mg_of X G a11, b11, F12, PySem.W.mg_of X G a12, b12, F13, PySem.W.mg_of X G a13, b13, F14, PySem.W.mg_of X G a14, b14, F15, PySem.W.mg_of X G a15, b15, F16, PySem.W.mg_of X G a16, b16, F17, PySem.W.mg_of X G a17, b17, F18, PySem.W.mg_of X G a18, b18, PySem.W.mg_none_of X G z_all, PySem.W.mg_none_of X G z_bool, PySem.W.mg_none_of X G z_int, PySem.W.mg_none_of X G z_isinstance, PySem.W.mg_none_of X G z_len, PySem.W.mg_none_of X G z_list, PySem.W.mg_none_of X G z_min, PySem.W.mg_none_of X G z_range, PySem.W.mg_none_of X G z_str, PySem.W.mg_none_of X G z_sum, PySem.W.mg_none_of X G z_zip⟩
 exact ⟨PySem.W.fnOf "law" "law" (defArgs s_law) (defBody s_law) (defScope s_law) .none kV19 dc19 pm19 an19 cd19 ct19, fun s v => .of_eq rfl, fun base _ _ => ok_law T F19⟩
theorem walk {l : PySem.W.OpenLaw} {q : Program} {loose : List Str} {XP : (Str → Option Value) → Heap → Prop} {YP : World → Heap → Prop} {d : DefRec} {K : Params → PySem.W.Frag} (hn : l.most = some 63) (hdf : d.params.defaults = [])
  (hY : ∀ (w : World) (h : Heap), YP w h → (K w.params).In h) (hg : ∀ ns : List Int, ns.length ≤ 63 → ∃ d, g_law [.lst false (ns.map D.int)] = some (.bl true, [d]))
  (F : ∀ (w : World) (mg : Str → Option Value) (fa : Addr) (h : Heap), (K w.params).In h → h.Ns mainGlobals mg → mg d.name = some (.ref fa) →
   ∃ fd : FuncData, (∀ (s : Shared) (u : Value), BindsTo s fd ⟨[u], []⟩ [("_law_script", u)]) ∧ ∀ base : Heap, (K w.params).In base → base.Ns mainGlobals mg → FnOk l.prog w (K w.params) mg base CX0 7 fa fd ["_law_script"] (spD (K w.params) 1 g_law)) :
  PySem.W.WalkO q loose XP YP l.row.toRowW d [] (fun f vs => PySem.call f vs) :=
 L2.walk_of (n := 63) (k := 7) (x := "_law_script") (CX := fun _ => CX0) (sp := fun w => spD (K w.params) 1 g_law) hn (by decide) hdf ⟨rfl, by decide, by decide, rfl⟩ hY F (fun _ _ a ns hl _ hS => law_sp (hg ns hl) hS) fun _ _ _ _ _ z => z
end LW
namespace LW
open PySem L2 DD TT
set_option genInjectivity false in
set_option genSizeOfSpec false in
set_option genSizeOf false in
structure S__law_mix where
 x_law_cell : Int
 x_law_turn : Int
 x_law_number : Int
noncomputable def T__law_mix : {f : (Int × Int × Unit) → Option (Int × (Int × Int × Unit)) // JF g__law_mix f (Pc rI (Pc rI Pn)) rI (Pc rI (Pc rI Pn))} := ⟨_, by
 exact jf_rt (S := S__law_mix) (N := 3) (W := [2]) (c := c__law_mix) (Γn := []) (ro := rI) (Γp := [some ⟨S__law_mix.x_law_cell, rI⟩, some ⟨S__law_mix.x_law_turn, rI⟩]) (Γr := [some ⟨S__law_mix.x_law_cell, rI⟩, some ⟨S__law_mix.x_law_turn, rI⟩, none]) (init := (fun p => (⟨p.1, p.2.1, 0⟩ : S__law_mix))) (jin_cons (get := S__law_mix.x_law_cell) (by decide) (fun _ => rfl) fun _ => (jin_cons (get := S__law_mix.x_law_turn) (by decide) (fun _ => rfl) fun _ => jin_nil))
  (js_seq (js_set 2 (get := S__law_mix.x_law_number) (put := (fun s v => {s with x_law_number := v})) (je_s (jp_op jo_I (jp_op jo_mul (jp_op jo_I0 (jp_op jo_I0 (jp_op jo_I (jp_v 0 rfl) (jp_i 2147483647)) (jp_op jo_mul (jp_op jo_mul (jp_v 1 rfl) (jp_v 1 rfl)) (jp_i 7919))) (jp_i 104729)) (jp_i 48271)) (jp_i 2147483647))))
  (js_ret (je_s (jp_op jo_I (jp_op jo_I0 (jp_op jo_mul (jp_v 2 rfl) (jp_v 2 rfl)) (jp_op jo_mul (jp_i 69621) (jp_v 1 rfl))) (jp_i 2147483629))) inferInstance (by first | exact Le.refl | (repeat (first | exact Le.nil | refine Le.som inferInstance ?_ | refine Le.non ?_))))) (jout_keep (by decide) rfl (jout_keep (by decide) rfl jout_nil))⟩
noncomputable def t__law_mix := T__law_mix.1
theorem j__law_mix : JF g__law_mix t__law_mix (Pc rI (Pc rI Pn)) rI (Pc rI (Pc rI Pn)) := T__law_mix.2
set_option genInjectivity false in
set_option genSizeOfSpec false in
set_option genSizeOf false in
structure S__law_draws where
 x_law_script : List Int
 x_law_turn : Int
 x_law_many : Int
 x_law_cells : List Int
 x_law_lefts : List Int
 x_law_found : List Int
 x_law_k : Int
 x_law_at : Int
 x_law_number : Int
noncomputable def T__law_draws : {f : ((List Int) × Int × Int × Unit) → Option ((List Int) × ((List Int) × Int × Int × Unit)) // JF g__law_draws f (Pc (rM rI) (Pc rI (Pc rI Pn))) (rL rI) (Pc (rM rI) (Pc rI (Pc rI Pn)))} := ⟨_, by
 exact jf_rt (S := S__law_draws) (N := 9) (W := [3, 4, 5, 6, 7, 8, 8, 8]) (c := c__law_draws) (Γn := []) (ro := (rL rI)) (Γp := [some ⟨S__law_draws.x_law_script, (rM rI)⟩, some ⟨S__law_draws.x_law_turn, rI⟩, some ⟨S__law_draws.x_law_many, rI⟩]) (Γr := [some ⟨S__law_draws.x_law_script, (rM rI)⟩, some ⟨S__law_draws.x_law_turn, rI⟩, some ⟨S__law_draws.x_law_many, rI⟩, none, none, none, none, none, none]) (init := (fun p => (⟨p.1, p.2.1, p.2.2.1, [], [], [], 0, 0, 0⟩ : S__law_draws))) (jin_cons (get := S__law_draws.x_law_script) (by decide) (fun _ => rfl) fun _ => (jin_cons (get := S__law_draws.x_law_turn) (by decide) (fun _ => rfl) fun _ => (jin_cons (get := S__law_draws.x_law_many) (by decide) (fun _ => rfl) fun _ => jin_nil)))
  (js_seq (js_set 3 (get := S__law_draws.x_law_cells) (put := (fun s v => {s with x_law_cells := v})) (je_cat (je_slB (jp_v 0 rfl) jop_none (jop_some (jp_i 63))) (je_lst (r := rI) (jl_cons (je_s (jp_v 1 rfl)) jl_nil))))
  (js_seq (js_set 4 (get := S__law_draws.x_law_lefts) (put := (fun s v => {s with x_law_lefts := v})) (je_lc (ji_lst (je_cp 3 rfl)) Le.refl (jgc1 9 rfl) (fun x1 => jt_true) (fun x1 => (je_s (jp_op jo_I (jp_v 9 rfl) (jp_i 100000))))))
  (js_seq (js_set 5 (get := S__law_draws.x_law_found) (put := (fun s v => {s with x_law_found := v})) (je_lst (jl_nil (r := rI))))
  (js_seq (js_for (ji_r1 (je_s (jp_op jo_I0 (jp_v 1 rfl) (jp_v 2 rfl)))) Le.refl (jg_nm 6 (get := S__law_draws.x_law_k) (put := (fun s v => {s with x_law_k := v}))) (js_seq (js_set 7 (get := S__law_draws.x_law_at) (put := (fun s v => {s with x_law_at := v})) (je_s (jp_op jo_I (jp_v 6 rfl) (jp_b1 jb_len (jp_v 3 rfl)))))
  (js_seq (js_set 8 (get := S__law_draws.x_law_number) (put := (fun s v => {s with x_law_number := v})) (je_call j__law_mix (ja1_ex (je_s (jp_op jo_ix (jp_v 3 rfl) (jp_v 7 rfl))) (ja1_bo 6 rfl ja1_nil)) (ja2_ex (ja2_sc 6 rfl ja2_nil)) (ja3_ex (ja3_sc 6 ja3_nil))))
  (js_seq (js_set 8 (get := S__law_draws.x_law_number) (put := (fun s v => {s with x_law_number := v})) (je_s (jp_op jo_I (jp_op jo_I0 (jp_op jo_mul (jp_v 8 rfl) (jp_v 8 rfl)) (jp_op jo_mul (jp_i 7) (jp_v 6 rfl))) (jp_i 2147483587))))
  (js_seq (js_if (Γ' := [some ⟨S__law_draws.x_law_script, (rM rI)⟩, some ⟨S__law_draws.x_law_turn, rI⟩, some ⟨S__law_draws.x_law_many, rI⟩, some ⟨S__law_draws.x_law_cells, (rM rI)⟩, some ⟨S__law_draws.x_law_lefts, (rL rI)⟩, some ⟨S__law_draws.x_law_found, (rL rI)⟩, some ⟨S__law_draws.x_law_k, rI⟩, some ⟨S__law_draws.x_law_at, rI⟩, some ⟨S__law_draws.x_law_number, rI⟩]) (jt_and (jt_e (je_op jo_B0 (je_s (jp_op jo_ix (jp_v 3 rfl) (jp_v 7 rfl))) (je_s (jp_op jo_I (jp_i 10) (jp_i 18))))) (jt_e (je_op jo_B0 (je_s (jp_op jo_ix (jp_v 4 rfl) (jp_v 7 rfl))) (je_s (jp_i 0))))) (js_seq (js_set 8 (get := S__law_draws.x_law_number) (put := (fun s v => {s with x_law_number := v})) (je_s (jp_op jo_I (jp_op jo_ix (jp_v 4 rfl) (jp_v 7 rfl)) (jp_i 2147483587))))
  (js_setS 4 (get := S__law_draws.x_law_lefts) (put := (fun s v => {s with x_law_lefts := v})) (je_s (jp_op jo_I (jp_op jo_ix (jp_v 4 rfl) (jp_v 7 rfl)) (jp_i 2147483587))) (jp_v 7 rfl) rfl)) js_skip)
  (js_drop (je_app 5 (get := S__law_draws.x_law_found) (put := (fun s v => {s with x_law_found := v})) (jp_v 8 rfl) rfl)))))))
  (js_ret (je_slB (jp_v 5 rfl) (jop_some (jp_v 1 rfl)) jop_none) inferInstance (by first | exact Le.refl | (repeat (first | exact Le.nil | refine Le.som inferInstance ?_ | refine Le.non ?_)))))))) (jout_keep (by decide) rfl (jout_keep (by decide) rfl (jout_keep (by decide) rfl jout_nil)))⟩
noncomputable def t__law_draws := T__law_draws.1
theorem j__law_draws : JF g__law_draws t__law_draws (Pc (rM rI) (Pc rI (Pc rI Pn))) (rL rI) (Pc (rM rI) (Pc rI (Pc rI Pn))) := T__law_draws.2
set_option genInjectivity false in
set_option genSizeOfSpec false in
set_option genSizeOf false in
structure S_all_names where
 xn : Int
noncomputable def T_all_names : {f : (Int × Unit) → Option (Int × (Int × Unit)) // JF g_all_names f (Pc rI Pn) rI (Pc rI Pn)} := ⟨_, by
 exact jf_rt (S := S_all_names) (N := 1) (W := []) (c := c_all_names) (Γn := []) (ro := rI) (Γp := [some ⟨S_all_names.xn, rI⟩]) (Γr := [some ⟨S_all_names.xn, rI⟩]) (init := (fun p => (⟨p.1⟩ : S_all_names))) (jin_cons (get := S_all_names.xn) (by decide) (fun _ => rfl) fun _ => jin_nil)
  (js_ret (je_s (jp_op jo_I0 (jp_op jo_I (jp_i 1) (jp_v 0 rfl)) (jp_i 1))) inferInstance (by first | exact Le.refl | (repeat (first | exact Le.nil | refine Le.som inferInstance ?_ | refine Le.non ?_)))) (jout_keep (by decide) rfl jout_nil)⟩
noncomputable def t_all_names := T_all_names.1
theorem j_all_names : JF g_all_names t_all_names (Pc rI Pn) rI (Pc rI Pn) := T_all_names.2
set_option genInjectivity false in
set_option genSizeOfSpec false in
set_option genSizeOf false in
structure S_pairs_with_known where
 xn : Int
 xi : Int
 xj : Int
 xboth : Int
noncomputable def T_pairs_with_known : {f : (Int × Int × Int × Unit) → Option ((List PyData) × (Int × Int × Int × Unit)) // JF g_pairs_with_known f (Pc rI (Pc rI (Pc rI Pn))) (rL rQ) (Pc rI (Pc rI (Pc rI Pn)))} := ⟨_, by
 exact jf_rt (S := S_pairs_with_known) (N := 4) (W := [3]) (c := c_pairs_with_known) (Γn := []) (ro := (rL rQ)) (Γp := [some ⟨S_pairs_with_known.xn, rI⟩, some ⟨S_pairs_with_known.xi, rI⟩, some ⟨S_pairs_with_known.xj, rI⟩]) (Γr := [some ⟨S_pairs_with_known.xn, rI⟩, some ⟨S_pairs_with_known.xi, rI⟩, some ⟨S_pairs_with_known.xj, rI⟩, none]) (init := (fun p => (⟨p.1, p.2.1, p.2.2.1, 0⟩ : S_pairs_with_known))) (jin_cons (get := S_pairs_with_known.xn) (by decide) (fun _ => rfl) fun _ => (jin_cons (get := S_pairs_with_known.xi) (by decide) (fun _ => rfl) fun _ => (jin_cons (get := S_pairs_with_known.xj) (by decide) (fun _ => rfl) fun _ => jin_nil)))
  (js_seq (js_set 3 (get := S_pairs_with_known.xboth) (put := (fun s v => {s with xboth := v})) (je_s (jp_op jo_I0 (jp_op jo_I (jp_i 1) (jp_v 1 rfl)) (jp_op jo_I (jp_i 1) (jp_v 2 rfl)))))
  (js_ret (je_lc (ji_r1 (je_op jo_I0 (je_call j_all_names (ja1_bo 0 rfl ja1_nil) (ja2_sc 0 rfl ja2_nil) (ja3_sc 0 ja3_nil)) (je_s (jp_i 1)))) Le.refl (jgc1 4 rfl) (fun x3 => (jt_e (je_op jo_eq (je_s (jp_op jo_I0 (jp_v 4 rfl) (jp_v 3 rfl))) (je_s (jp_i 0))))) (fun x3 => (je_cq (je_t4 (je_s (jp_s "pair")) (je_s (jp_v 1 rfl)) (je_s (jp_v 2 rfl)) (je_s (jp_v 4 rfl)))))) inferInstance (by first | exact Le.refl | (repeat (first | exact Le.nil | refine Le.som inferInstance ?_ | refine Le.non ?_))))) (jout_keep (by decide) rfl (jout_keep (by decide) rfl (jout_keep (by decide) rfl jout_nil)))⟩
noncomputable def t_pairs_with_known := T_pairs_with_known.1
theorem j_pairs_with_known : JF g_pairs_with_known t_pairs_with_known (Pc rI (Pc rI (Pc rI Pn))) (rL rQ) (Pc rI (Pc rI (Pc rI Pn))) := T_pairs_with_known.2
set_option genInjectivity false in
set_option genSizeOfSpec false in
set_option genSizeOf false in
structure S_rules where
 xn : Int
 xfound : List PyData
 xi : Int
 xj : Int
noncomputable def T_rules : {f : (Int × Unit) → Option ((List PyData) × (Int × Unit)) // JF g_rules f (Pc rI Pn) (rL rQ) (Pc rI Pn)} := ⟨_, by
 exact jf_rt (S := S_rules) (N := 4) (W := [1, 2, 3]) (c := c_rules) (Γn := []) (ro := (rL rQ)) (Γp := [some ⟨S_rules.xn, rI⟩]) (Γr := [some ⟨S_rules.xn, rI⟩, none, none, none]) (init := (fun p => (⟨p.1, [], 0, 0⟩ : S_rules))) (jin_cons (get := S_rules.xn) (by decide) (fun _ => rfl) fun _ => jin_nil)
  (js_seq (js_set 1 (get := S_rules.xfound) (put := (fun s v => {s with xfound := v})) (je_lc (ji_r1 (je_s (jp_v 0 rfl))) Le.refl (jgc1 4 rfl) (fun x2 => jt_true) (fun x2 => (je_cq (je_t2 (je_s (jp_s "last")) (je_s (jp_v 4 rfl)))))))
  (js_seq (js_for (ji_r1 (je_s (jp_v 0 rfl))) Le.refl (jg_nm 2 (get := S_rules.xi) (put := (fun s v => {s with xi := v}))) (js_for (ji_r2 (je_s (jp_op jo_I0 (jp_v 2 rfl) (jp_i 1))) (je_s (jp_v 0 rfl))) Le.refl (jg_nm 3 (get := S_rules.xj) (put := (fun s v => {s with xj := v}))) (js_drop (je_extV 1 (get := S_rules.xfound) (put := (fun s v => {s with xfound := v})) (je_call j_pairs_with_known (ja1_bo 0 rfl (ja1_bo 2 rfl (ja1_bo 3 rfl ja1_nil))) (ja2_sc 0 rfl (ja2_sc 2 rfl (ja2_sc 3 rfl ja2_nil))) (ja3_sc 0 (ja3_sc 2 (ja3_sc 3 ja3_nil)))) rfl rfl))))
  (js_ret (je_mv 1 rfl) inferInstance (by first | exact Le.refl | (repeat (first | exact Le.nil | refine Le.som inferInstance ?_ | refine Le.non ?_)))))) (jout_keep (by decide) rfl jout_nil)⟩
noncomputable def t_rules := T_rules.1
theorem j_rules : JF g_rules t_rules (Pc rI Pn) (rL rQ) (Pc rI Pn) := T_rules.2
set_option genInjectivity false in
set_option genSizeOfSpec false in
set_option genSizeOf false in
structure S_row_of_terms where
 xn : Int
 xterms : List (Int × Int)
 xrow : List Int
 xgroup : Int
 xnumber : Int
noncomputable def T_row_of_terms : {f : (Int × (List (Int × Int)) × Unit) → Option ((List Int) × (Int × (List (Int × Int)) × Unit)) // JF g_row_of_terms f (Pc rI (Pc (rL (rT2 rI rI)) Pn)) (rL rI) (Pc rI (Pc (rM (rT2 rI rI)) Pn))} := ⟨_, by
 exact jf_rt (S := S_row_of_terms) (N := 5) (W := [2, 3, 4]) (c := c_row_of_terms) (Γn := []) (ro := (rL rI)) (Γp := [some ⟨S_row_of_terms.xn, rI⟩, some ⟨S_row_of_terms.xterms, (rL (rT2 rI rI))⟩]) (Γr := [some ⟨S_row_of_terms.xn, rI⟩, some ⟨S_row_of_terms.xterms, (rM (rT2 rI rI))⟩, none, none, none]) (init := (fun p => (⟨p.1, p.2.1, [], 0, 0⟩ : S_row_of_terms))) (jin_cons (get := S_row_of_terms.xn) (by decide) (fun _ => rfl) fun _ => (jin_cons (get := S_row_of_terms.xterms) (by decide) (fun _ => rfl) fun _ => jin_nil))
  (js_seq (js_set 2 (get := S_row_of_terms.xrow) (put := (fun s v => {s with xrow := v})) (je_rep (je_lst (r := rI) (jl_cons (je_s (jp_i 0)) jl_nil)) (je_call j_all_names (ja1_bo 0 rfl ja1_nil) (ja2_sc 0 rfl ja2_nil) (ja3_sc 0 ja3_nil))))
  (js_seq (js_for (ji_lst (je_cp 1 rfl)) Le.refl (jg_t2 (jg_nm 3 (get := S_row_of_terms.xgroup) (put := (fun s v => {s with xgroup := v}))) (jg_nm 4 (get := S_row_of_terms.xnumber) (put := (fun s v => {s with xnumber := v})))) (js_if (Γ' := [some ⟨S_row_of_terms.xn, rI⟩, some ⟨S_row_of_terms.xterms, (rM (rT2 rI rI))⟩, some ⟨S_row_of_terms.xrow, (rL rI)⟩, some ⟨S_row_of_terms.xgroup, rI⟩, some ⟨S_row_of_terms.xnumber, rI⟩]) (jt_e (je_op jo_ne (je_s (jp_v 3 rfl)) (je_s (jp_i 0)))) (js_augS 2 (get := S_row_of_terms.xrow) (put := (fun s v => {s with xrow := v})) jo_I0 (jp_op jo_I0 (jp_v 3 rfl) (jp_i 1)) (jp_v 4 rfl) rfl) js_skip))
  (js_ret (je_mv 2 rfl) inferInstance (by first | exact Le.refl | (repeat (first | exact Le.nil | refine Le.som inferInstance ?_ | refine Le.non ?_)))))) (jout_keep (by decide) rfl (jout_keep (by decide) rfl jout_nil))⟩
noncomputable def t_row_of_terms := T_row_of_terms.1
theorem j_row_of_terms : JF g_row_of_terms t_row_of_terms (Pc rI (Pc (rL (rT2 rI rI)) Pn)) (rL rI) (Pc rI (Pc (rM (rT2 rI rI)) Pn)) := T_row_of_terms.2
set_option genInjectivity false in
set_option genSizeOfSpec false in
set_option genSizeOf false in
structure S_rest_row where
 xn : Int
 xa : Int
 xb : Int
noncomputable def T_rest_row : {f : (Int × Int × Int × Unit) → Option ((List Int) × (Int × Int × Int × Unit)) // JF g_rest_row f (Pc rI (Pc rI (Pc rI Pn))) (rL rI) (Pc rI (Pc rI (Pc rI Pn)))} := ⟨_, by
 exact jf_rt (S := S_rest_row) (N := 3) (W := []) (c := c_rest_row) (Γn := []) (ro := (rL rI)) (Γp := [some ⟨S_rest_row.xn, rI⟩, some ⟨S_rest_row.xa, rI⟩, some ⟨S_rest_row.xb, rI⟩]) (Γr := [some ⟨S_rest_row.xn, rI⟩, some ⟨S_rest_row.xa, rI⟩, some ⟨S_rest_row.xb, rI⟩]) (init := (fun p => (⟨p.1, p.2.1, p.2.2.1⟩ : S_rest_row))) (jin_cons (get := S_rest_row.xn) (by decide) (fun _ => rfl) fun _ => (jin_cons (get := S_rest_row.xa) (by decide) (fun _ => rfl) fun _ => (jin_cons (get := S_rest_row.xb) (by decide) (fun _ => rfl) fun _ => jin_nil)))
  (js_ret (je_call j_row_of_terms (ja1_bo 0 rfl (ja1_ex (je_lst (r := (rT2 rI rI)) (jl_cons (je_t2 (je_s (jp_op jo_I0 (jp_v 1 rfl) (jp_v 2 rfl))) (je_s (jp_i 1))) (jl_cons (je_t2 (je_s (jp_v 2 rfl)) (je_s (jp_neg (jp_i 1)))) jl_nil))) ja1_nil)) (ja2_sc 0 rfl (ja2_ex ja2_nil)) (ja3_sc 0 (ja3_ex ja3_nil))) inferInstance (by first | exact Le.refl | (repeat (first | exact Le.nil | refine Le.som inferInstance ?_ | refine Le.non ?_)))) (jout_keep (by decide) rfl (jout_keep (by decide) rfl (jout_keep (by decide) rfl jout_nil)))⟩
noncomputable def t_rest_row := T_rest_row.1
theorem j_rest_row : JF g_rest_row t_rest_row (Pc rI (Pc rI (Pc rI Pn))) (rL rI) (Pc rI (Pc rI (Pc rI Pn))) := T_rest_row.2
set_option genInjectivity false in
set_option genSizeOfSpec false in
set_option genSizeOf false in
structure S_shared_row where
 xn : Int
 xa : Int
 xb : Int
 xc : Int
noncomputable def T_shared_row : {f : (Int × Int × Int × Int × Unit) → Option ((List Int) × (Int × Int × Int × Int × Unit)) // JF g_shared_row f (Pc rI (Pc rI (Pc rI (Pc rI Pn)))) (rL rI) (Pc rI (Pc rI (Pc rI (Pc rI Pn))))} := ⟨_, by
 exact jf_rt (S := S_shared_row) (N := 4) (W := []) (c := c_shared_row) (Γn := []) (ro := (rL rI)) (Γp := [some ⟨S_shared_row.xn, rI⟩, some ⟨S_shared_row.xa, rI⟩, some ⟨S_shared_row.xb, rI⟩, some ⟨S_shared_row.xc, rI⟩]) (Γr := [some ⟨S_shared_row.xn, rI⟩, some ⟨S_shared_row.xa, rI⟩, some ⟨S_shared_row.xb, rI⟩, some ⟨S_shared_row.xc, rI⟩]) (init := (fun p => (⟨p.1, p.2.1, p.2.2.1, p.2.2.2.1⟩ : S_shared_row))) (jin_cons (get := S_shared_row.xn) (by decide) (fun _ => rfl) fun _ => (jin_cons (get := S_shared_row.xa) (by decide) (fun _ => rfl) fun _ => (jin_cons (get := S_shared_row.xb) (by decide) (fun _ => rfl) fun _ => (jin_cons (get := S_shared_row.xc) (by decide) (fun _ => rfl) fun _ => jin_nil))))
  (js_ret (je_call j_row_of_terms (ja1_bo 0 rfl (ja1_ex (je_lst (r := (rT2 rI rI)) (jl_cons (je_t2 (je_s (jp_op jo_I0 (jp_v 1 rfl) (jp_v 3 rfl))) (je_s (jp_i 1))) (jl_cons (je_t2 (je_s (jp_op jo_I0 (jp_v 2 rfl) (jp_v 3 rfl))) (je_s (jp_i 1))) (jl_cons (je_t2 (je_s (jp_op jo_I0 (jp_op jo_I0 (jp_v 1 rfl) (jp_v 2 rfl)) (jp_v 3 rfl))) (je_s (jp_neg (jp_i 1)))) (jl_cons (je_t2 (je_s (jp_v 3 rfl)) (je_s (jp_neg (jp_i 1)))) jl_nil))))) ja1_nil)) (ja2_sc 0 rfl (ja2_ex ja2_nil)) (ja3_sc 0 (ja3_ex ja3_nil))) inferInstance (by first | exact Le.refl | (repeat (first | exact Le.nil | refine Le.som inferInstance ?_ | refine Le.non ?_)))) (jout_keep (by decide) rfl (jout_keep (by decide) rfl (jout_keep (by decide) rfl (jout_keep (by decide) rfl jout_nil))))⟩
noncomputable def t_shared_row := T_shared_row.1
theorem j_shared_row : JF g_shared_row t_shared_row (Pc rI (Pc rI (Pc rI (Pc rI Pn)))) (rL rI) (Pc rI (Pc rI (Pc rI (Pc rI Pn)))) := T_shared_row.2
set_option genInjectivity false in
set_option genSizeOfSpec false in
set_option genSizeOf false in
structure S_rule_row where
 xn : Int
 xrule : PyData
 xone : Int
noncomputable def T_rule_row : {f : (Int × PyData × Unit) → Option ((List Int) × (Int × PyData × Unit)) // JF g_rule_row f (Pc rI (Pc rQ Pn)) (rL rI) (Pc rI (Pc rQ Pn))} := ⟨_, by
 exact jf_rt (S := S_rule_row) (N := 3) (W := [2]) (c := c_rule_row) (Γn := []) (ro := (rL rI)) (Γp := [some ⟨S_rule_row.xn, rI⟩, some ⟨S_rule_row.xrule, rQ⟩]) (Γr := [some ⟨S_rule_row.xn, rI⟩, some ⟨S_rule_row.xrule, rQ⟩, none]) (init := (fun p => (⟨p.1, p.2.1, 0⟩ : S_rule_row))) (jin_cons (get := S_rule_row.xn) (by decide) (fun _ => rfl) fun _ => (jin_cons (get := S_rule_row.xrule) (by decide) (fun _ => rfl) fun _ => jin_nil))
  (js_seq (js_set 2 (get := S_rule_row.xone) (put := (fun s v => {s with xone := v})) (je_s (jp_op jo_I (jp_i 1) (jp_asI (jp_op jo_ixQ (jp_v 1 rfl) (jp_i 1))))))
  (js_seq (js_if (Γ' := [some ⟨S_rule_row.xn, rI⟩, some ⟨S_rule_row.xrule, rQ⟩, some ⟨S_rule_row.xone, rI⟩]) (jt_e (je_op jo_eq (je_s (jp_asS (jp_op jo_ixQ (jp_v 1 rfl) (jp_i 0)))) (je_s (jp_s "last")))) (js_ret (je_call j_rest_row (ja1_bo 0 rfl (ja1_bo 2 rfl (ja1_ex (je_op jo_I0 (je_call j_all_names (ja1_bo 0 rfl ja1_nil) (ja2_sc 0 rfl ja2_nil) (ja3_sc 0 ja3_nil)) (je_s (jp_v 2 rfl))) ja1_nil))) (ja2_sc 0 rfl (ja2_sc 2 rfl (ja2_ex ja2_nil))) (ja3_sc 0 (ja3_sc 2 (ja3_ex ja3_nil)))) inferInstance (by first | exact Le.refl | (repeat (first | exact Le.nil | refine Le.som inferInstance ?_ | refine Le.non ?_)))) js_skip)
  (js_ret (je_call j_shared_row (ja1_bo 0 rfl (ja1_bo 2 rfl (ja1_ex (je_s (jp_op jo_I (jp_i 1) (jp_asI (jp_op jo_ixQ (jp_v 1 rfl) (jp_i 2))))) (ja1_ex (je_s (jp_asI (jp_op jo_ixQ (jp_v 1 rfl) (jp_i 3)))) ja1_nil)))) (ja2_sc 0 rfl (ja2_sc 2 rfl (ja2_ex (ja2_ex ja2_nil)))) (ja3_sc 0 (ja3_sc 2 (ja3_ex (ja3_ex ja3_nil))))) inferInstance (by first | exact Le.refl | (repeat (first | exact Le.nil | refine Le.som inferInstance ?_ | refine Le.non ?_)))))) (jout_keep (by decide) rfl (jout_keep (by decide) rfl jout_nil))⟩
noncomputable def t_rule_row := T_rule_row.1
theorem j_rule_row : JF g_rule_row t_rule_row (Pc rI (Pc rQ Pn)) (rL rI) (Pc rI (Pc rQ Pn)) := T_rule_row.2
set_option genInjectivity false in
set_option genSizeOfSpec false in
set_option genSizeOf false in
structure S__law_named where
 x_law_n : Int
 x_law_found : List PyData
 x_law_i : Int
 x_law_j : Int
 x_law_g : Int
noncomputable def T__law_named : {f : (Int × Unit) → Option ((List PyData) × (Int × Unit)) // JF g__law_named f (Pc rI Pn) (rL rQ) (Pc rI Pn)} := ⟨_, by
 exact jf_rt (S := S__law_named) (N := 5) (W := [1, 2, 3, 4]) (c := c__law_named) (Γn := []) (ro := (rL rQ)) (Γp := [some ⟨S__law_named.x_law_n, rI⟩]) (Γr := [some ⟨S__law_named.x_law_n, rI⟩, none, none, none, none]) (init := (fun p => (⟨p.1, [], 0, 0, 0⟩ : S__law_named))) (jin_cons (get := S__law_named.x_law_n) (by decide) (fun _ => rfl) fun _ => jin_nil)
  (js_seq (js_set 1 (get := S__law_named.x_law_found) (put := (fun s v => {s with x_law_found := v})) (je_lc (ji_r1 (je_s (jp_v 0 rfl))) Le.refl (jgc1 5 rfl) (fun x5 => jt_true) (fun x5 => (je_cq (je_t2 (je_s (jp_s "last")) (je_s (jp_v 5 rfl)))))))
  (js_seq (js_for (ji_r1 (je_s (jp_v 0 rfl))) Le.refl (jg_nm 2 (get := S__law_named.x_law_i) (put := (fun s v => {s with x_law_i := v}))) (js_for (ji_r2 (je_s (jp_op jo_I0 (jp_v 2 rfl) (jp_i 1))) (je_s (jp_v 0 rfl))) Le.refl (jg_nm 3 (get := S__law_named.x_law_j) (put := (fun s v => {s with x_law_j := v}))) (js_for (ji_r1 (je_s (jp_op jo_I (jp_i 1) (jp_v 0 rfl)))) Le.refl (jg_nm 4 (get := S__law_named.x_law_g) (put := (fun s v => {s with x_law_g := v}))) (js_if (Γ' := [some ⟨S__law_named.x_law_n, rI⟩, some ⟨S__law_named.x_law_found, (rL rQ)⟩, some ⟨S__law_named.x_law_i, rI⟩, some ⟨S__law_named.x_law_j, rI⟩, some ⟨S__law_named.x_law_g, rI⟩]) (jt_and (jt_e (je_op jo_eq (je_s (jp_op jo_I0 (jp_op jo_I (jp_v 4 rfl) (jp_v 2 rfl)) (jp_i 1))) (je_s (jp_i 0)))) (jt_e (je_op jo_eq (je_s (jp_op jo_I0 (jp_op jo_I (jp_v 4 rfl) (jp_v 3 rfl)) (jp_i 1))) (je_s (jp_i 0))))) (js_drop (je_appV 1 (get := S__law_named.x_law_found) (put := (fun s v => {s with x_law_found := v})) (je_cq (je_t4 (je_s (jp_s "pair")) (je_s (jp_v 2 rfl)) (je_s (jp_v 3 rfl)) (je_s (jp_v 4 rfl)))) rfl rfl)) js_skip))))
  (js_ret (je_mv 1 rfl) inferInstance (by first | exact Le.refl | (repeat (first | exact Le.nil | refine Le.som inferInstance ?_ | refine Le.non ?_)))))) (jout_keep (by decide) rfl jout_nil)⟩
noncomputable def t__law_named := T__law_named.1
theorem j__law_named : JF g__law_named t__law_named (Pc rI Pn) (rL rQ) (Pc rI Pn) := T__law_named.2
set_option genInjectivity false in
set_option genSizeOfSpec false in
set_option genSizeOf false in
structure S__law_row_of where
 x_law_n : Int
 x_law_terms : List (Int × Int)
 x_law_row : List Int
 x_law_group : Int
 x_law_number : Int
noncomputable def T__law_row_of : {f : (Int × (List (Int × Int)) × Unit) → Option ((List Int) × (Int × (List (Int × Int)) × Unit)) // JF g__law_row_of f (Pc rI (Pc (rL (rT2 rI rI)) Pn)) (rL rI) (Pc rI (Pc (rM (rT2 rI rI)) Pn))} := ⟨_, by
 exact jf_rt (S := S__law_row_of) (N := 5) (W := [2, 3, 4]) (c := c__law_row_of) (Γn := []) (ro := (rL rI)) (Γp := [some ⟨S__law_row_of.x_law_n, rI⟩, some ⟨S__law_row_of.x_law_terms, (rL (rT2 rI rI))⟩]) (Γr := [some ⟨S__law_row_of.x_law_n, rI⟩, some ⟨S__law_row_of.x_law_terms, (rM (rT2 rI rI))⟩, none, none, none]) (init := (fun p => (⟨p.1, p.2.1, [], 0, 0⟩ : S__law_row_of))) (jin_cons (get := S__law_row_of.x_law_n) (by decide) (fun _ => rfl) fun _ => (jin_cons (get := S__law_row_of.x_law_terms) (by decide) (fun _ => rfl) fun _ => jin_nil))
  (js_seq (js_set 2 (get := S__law_row_of.x_law_row) (put := (fun s v => {s with x_law_row := v})) (je_lc (ji_r1 (je_s (jp_op jo_I0 (jp_op jo_I (jp_i 1) (jp_v 0 rfl)) (jp_i 1)))) Le.refl (jgc1 5 rfl) (fun x7 => jt_true) (fun x7 => (je_s (jp_i 0)))))
  (js_seq (js_for (ji_lst (je_cp 1 rfl)) Le.refl (jg_t2 (jg_nm 3 (get := S__law_row_of.x_law_group) (put := (fun s v => {s with x_law_group := v}))) (jg_nm 4 (get := S__law_row_of.x_law_number) (put := (fun s v => {s with x_law_number := v})))) (js_if (Γ' := [some ⟨S__law_row_of.x_law_n, rI⟩, some ⟨S__law_row_of.x_law_terms, (rM (rT2 rI rI))⟩, some ⟨S__law_row_of.x_law_row, (rL rI)⟩, some ⟨S__law_row_of.x_law_group, rI⟩, some ⟨S__law_row_of.x_law_number, rI⟩]) (jt_e (je_op jo_B0 (je_s (jp_v 3 rfl)) (je_s (jp_i 0)))) (js_setS 2 (get := S__law_row_of.x_law_row) (put := (fun s v => {s with x_law_row := v})) (je_s (jp_op jo_I0 (jp_op jo_ix (jp_v 2 rfl) (jp_op jo_I0 (jp_v 3 rfl) (jp_i 1))) (jp_v 4 rfl))) (jp_op jo_I0 (jp_v 3 rfl) (jp_i 1)) rfl) js_skip))
  (js_ret (je_mv 2 rfl) inferInstance (by first | exact Le.refl | (repeat (first | exact Le.nil | refine Le.som inferInstance ?_ | refine Le.non ?_)))))) (jout_keep (by decide) rfl (jout_keep (by decide) rfl jout_nil))⟩
noncomputable def t__law_row_of := T__law_row_of.1
theorem j__law_row_of : JF g__law_row_of t__law_row_of (Pc rI (Pc (rL (rT2 rI rI)) Pn)) (rL rI) (Pc rI (Pc (rM (rT2 rI rI)) Pn)) := T__law_row_of.2
set_option genInjectivity false in
set_option genSizeOfSpec false in
set_option genSizeOf false in
structure S__law_rules where
 x_law_n : Int
 x_law_whole : Int
 x_law_rows : List (List Int)
 x_law_i : Int
 x_law_j : Int
 x_law_one : Int
 x_law_other : Int
 x_law_g : Int
 x_law_terms : List (Int × Int)
noncomputable def T__law_rules : {f : (Int × Unit) → Option ((List (List Int)) × (Int × Unit)) // JF g__law_rules f (Pc rI Pn) (rL (rL rI)) (Pc rI Pn)} := ⟨_, by
 exact jf_rt (S := S__law_rules) (N := 9) (W := [1, 2, 3, 4, 5, 6, 7, 8]) (c := c__law_rules) (Γn := []) (ro := (rL (rL rI))) (Γp := [some ⟨S__law_rules.x_law_n, rI⟩]) (Γr := [some ⟨S__law_rules.x_law_n, rI⟩, none, none, none, none, none, none, none, none]) (init := (fun p => (⟨p.1, 0, [], 0, 0, 0, 0, 0, []⟩ : S__law_rules))) (jin_cons (get := S__law_rules.x_law_n) (by decide) (fun _ => rfl) fun _ => jin_nil)
  (js_seq (js_set 1 (get := S__law_rules.x_law_whole) (put := (fun s v => {s with x_law_whole := v})) (je_s (jp_op jo_I0 (jp_op jo_I (jp_i 1) (jp_v 0 rfl)) (jp_i 1))))
  (js_seq (js_set 2 (get := S__law_rules.x_law_rows) (put := (fun s v => {s with x_law_rows := v})) (je_lc (ji_r1 (je_s (jp_v 0 rfl))) Le.refl (jgc1 9 rfl) (fun x6 => jt_true) (fun x6 => (je_call j__law_row_of (ja1_bo 0 rfl (ja1_ex (je_lst (r := (rT2 rI rI)) (jl_cons (je_t2 (je_s (jp_v 1 rfl)) (je_s (jp_i 1))) (jl_cons (je_t2 (je_s (jp_op jo_I0 (jp_v 1 rfl) (jp_op jo_I (jp_i 1) (jp_v 9 rfl)))) (je_s (jp_neg (jp_i 1)))) jl_nil))) ja1_nil)) (ja2_sc 0 rfl (ja2_ex ja2_nil)) (ja3_sc 0 (ja3_ex ja3_nil))))))
  (js_seq (js_for (ji_r1 (je_s (jp_v 0 rfl))) Le.refl (jg_nm 3 (get := S__law_rules.x_law_i) (put := (fun s v => {s with x_law_i := v}))) (js_for (ji_r2 (je_s (jp_op jo_I0 (jp_v 3 rfl) (jp_i 1))) (je_s (jp_v 0 rfl))) Le.refl (jg_nm 4 (get := S__law_rules.x_law_j) (put := (fun s v => {s with x_law_j := v}))) (js_seq (js_set 5 (get := S__law_rules.x_law_one) (put := (fun s v => {s with x_law_one := v})) (je_s (jp_op jo_I (jp_i 1) (jp_v 3 rfl))))
  (js_seq (js_set 6 (get := S__law_rules.x_law_other) (put := (fun s v => {s with x_law_other := v})) (je_s (jp_op jo_I (jp_i 1) (jp_v 4 rfl))))
  (js_for (ji_r1 (je_s (jp_op jo_I0 (jp_v 1 rfl) (jp_i 1)))) Le.refl (jg_nm 7 (get := S__law_rules.x_law_g) (put := (fun s v => {s with x_law_g := v}))) (js_if (Γ' := [some ⟨S__law_rules.x_law_n, rI⟩, some ⟨S__law_rules.x_law_whole, rI⟩, some ⟨S__law_rules.x_law_rows, (rL (rL rI))⟩, some ⟨S__law_rules.x_law_i, rI⟩, some ⟨S__law_rules.x_law_j, rI⟩, some ⟨S__law_rules.x_law_one, rI⟩, some ⟨S__law_rules.x_law_other, rI⟩, some ⟨S__law_rules.x_law_g, rI⟩, none]) (jt_e (je_op jo_eq (je_s (jp_op jo_I0 (jp_v 7 rfl) (jp_op jo_I0 (jp_v 5 rfl) (jp_v 6 rfl)))) (je_s (jp_i 0)))) (js_seq (js_set 8 (get := S__law_rules.x_law_terms) (put := (fun s v => {s with x_law_terms := v})) (je_lst (r := (rT2 rI rI)) (jl_cons (je_t2 (je_s (jp_op jo_I0 (jp_v 7 rfl) (jp_v 5 rfl))) (je_s (jp_i 1))) (jl_cons (je_t2 (je_s (jp_op jo_I0 (jp_v 7 rfl) (jp_v 6 rfl))) (je_s (jp_i 1))) (jl_cons (je_t2 (je_s (jp_op jo_I0 (jp_op jo_I0 (jp_v 7 rfl) (jp_v 5 rfl)) (jp_v 6 rfl))) (je_s (jp_neg (jp_i 1)))) (jl_cons (je_t2 (je_s (jp_v 7 rfl)) (je_s (jp_neg (jp_i 1)))) jl_nil))))))
  (js_drop (je_appV 2 (get := S__law_rules.x_law_rows) (put := (fun s v => {s with x_law_rows := v})) (je_call j__law_row_of (ja1_bo 0 rfl (ja1_bo 8 rfl ja1_nil)) (ja2_sc 0 rfl (ja2_ns 8 rfl ja2_nil)) (ja3_sc 0 (ja3_ns 8 (get := S__law_rules.x_law_terms) (put := (fun s v => {s with x_law_terms := v})) (by intro _ _; rfl) (by intro _; repeat (first | exact Fr.nil | refine Fr.som (fun _ _ h => h) ?_ | refine Fr.non ?_)) ja3_nil))) rfl rfl))) js_skip))))))
  (js_ret (je_mv 2 rfl) inferInstance (by first | exact Le.refl | (repeat (first | exact Le.nil | refine Le.som inferInstance ?_ | refine Le.non ?_))))))) (jout_keep (by decide) rfl jout_nil)⟩
noncomputable def t__law_rules := T__law_rules.1
theorem j__law_rules : JF g__law_rules t__law_rules (Pc rI Pn) (rL (rL rI)) (Pc rI Pn) := T__law_rules.2
set_option genInjectivity false in
set_option genSizeOfSpec false in
set_option genSizeOf false in
structure S__law_pop where
 x_law_draws_here : List Int
noncomputable def T__law_pop : {f : ((List Int) × Unit) → Option (Int × ((List Int) × Unit)) // JF g__law_pop f (Pc (rL rI) Pn) rI (Pc (rL rI) Pn)} := ⟨_, by
 exact jf_rt (S := S__law_pop) (N := 1) (W := []) (c := c__law_pop) (Γn := []) (ro := rI) (Γp := [some ⟨S__law_pop.x_law_draws_here, (rL rI)⟩]) (Γr := [some ⟨S__law_pop.x_law_draws_here, (rL rI)⟩]) (init := (fun p => (⟨p.1⟩ : S__law_pop))) (jin_cons (get := S__law_pop.x_law_draws_here) (by decide) (fun _ => rfl) fun _ => jin_nil)
  (js_seq (js_if (Γ' := [some ⟨S__law_pop.x_law_draws_here, (rL rI)⟩]) (jt_e (je_s (jp_op jo_eq (jp_v 0 rfl) (jp_l0 (r := rI))))) (js_ret (je_s (jp_i 0)) inferInstance (by first | exact Le.refl | (repeat (first | exact Le.nil | refine Le.som inferInstance ?_ | refine Le.non ?_)))) js_skip)
  (js_ret (je_pop 0 (get := S__law_pop.x_law_draws_here) (put := (fun s v => {s with x_law_draws_here := v})) rfl) inferInstance (by first | exact Le.refl | (repeat (first | exact Le.nil | refine Le.som inferInstance ?_ | refine Le.non ?_))))) (jout_keep (by decide) rfl jout_nil)⟩
noncomputable def t__law_pop := T__law_pop.1
theorem j__law_pop : JF g__law_pop t__law_pop (Pc (rL rI) Pn) rI (Pc (rL rI) Pn) := T__law_pop.2
set_option genInjectivity false in
set_option genSizeOfSpec false in
set_option genSizeOf false in
structure S__law_bits where
 x_law_group : Int
noncomputable def T__law_bits : {f : (Int × Unit) → Option (Int × (Int × Unit)) // JF g__law_bits f (Pc rI Pn) rI (Pc rI Pn)} := ⟨_, by
 exact jf_rt (S := S__law_bits) (N := 1) (W := []) (c := c__law_bits) (Γn := []) (ro := rI) (Γp := [some ⟨S__law_bits.x_law_group, rI⟩]) (Γr := [some ⟨S__law_bits.x_law_group, rI⟩]) (init := (fun p => (⟨p.1⟩ : S__law_bits))) (jin_cons (get := S__law_bits.x_law_group) (by decide) (fun _ => rfl) fun _ => jin_nil)
  (js_ret (je_b1 jb_len (je_lc (ji_r1 (je_s (jp_i 4))) Le.refl (jgc1 1 rfl) (fun x10 => (jt_e (je_op jo_eq (je_s (jp_op jo_I0 (jp_op jo_I (jp_v 0 rfl) (jp_v 1 rfl)) (jp_i 1))) (je_s (jp_i 1))))) (fun x10 => (je_s (jp_v 1 rfl))))) inferInstance (by first | exact Le.refl | (repeat (first | exact Le.nil | refine Le.som inferInstance ?_ | refine Le.non ?_)))) (jout_keep (by decide) rfl jout_nil)⟩
noncomputable def t__law_bits := T__law_bits.1
theorem j__law_bits : JF g__law_bits t__law_bits (Pc rI Pn) rI (Pc rI Pn) := T__law_bits.2
set_option genInjectivity false in
set_option genSizeOfSpec false in
set_option genSizeOf false in
structure S__law_table where
 x_law_n : Int
 x_law_draws_here : List Int
 x_law_table_here : List Int
 x_law_k : Int
 x_law_number : Int
 x_law_mask : Int
 x_law_most : Int
 x_law_times : Int
 x_law_pair : Int
 x_law_four : List Int
noncomputable def T__law_table : {f : (Int × (List Int) × Unit) → Option ((List Int) × (Int × (List Int) × Unit)) // JF g__law_table f (Pc rI (Pc (rL rI) Pn)) (rL rI) (Pc rI (Pc (rL rI) Pn))} := ⟨_, by
 exact jf_rt (S := S__law_table) (N := 10) (W := [2, 3, 4, 5, 6, 7, 2, 4, 8, 9, 2]) (c := c__law_table) (Γn := []) (ro := (rL rI)) (Γp := [some ⟨S__law_table.x_law_n, rI⟩, some ⟨S__law_table.x_law_draws_here, (rL rI)⟩]) (Γr := [some ⟨S__law_table.x_law_n, rI⟩, some ⟨S__law_table.x_law_draws_here, (rL rI)⟩, none, none, none, none, none, none, none, none]) (init := (fun p => (⟨p.1, p.2.1, [], 0, 0, 0, 0, 0, 0, []⟩ : S__law_table))) (jin_cons (get := S__law_table.x_law_n) (by decide) (fun _ => rfl) fun _ => (jin_cons (get := S__law_table.x_law_draws_here) (by decide) (fun _ => rfl) fun _ => jin_nil))
  (js_seq (js_set 2 (get := S__law_table.x_law_table_here) (put := (fun s v => {s with x_law_table_here := v})) (je_lc (ji_r1 (je_s (jp_op jo_I0 (jp_op jo_I (jp_i 1) (jp_v 0 rfl)) (jp_i 1)))) Le.refl (jgc1 10 rfl) (fun x8 => jt_true) (fun x8 => (je_s (jp_i 0)))))
  (js_seq (js_for (ji_r1 (je_op jo_I (je_call j__law_pop (ja1_bo 1 rfl ja1_nil) (ja2_ns 1 rfl ja2_nil) (ja3_ns 1 (get := S__law_table.x_law_draws_here) (put := (fun s v => {s with x_law_draws_here := v})) (by intro _ _; rfl) (by intro _; repeat (first | exact Fr.nil | refine Fr.som (fun _ _ h => h) ?_ | refine Fr.non ?_)) ja3_nil)) (je_s (jp_i 5)))) Le.refl (jg_nm 3 (get := S__law_table.x_law_k) (put := (fun s v => {s with x_law_k := v}))) (js_seq (js_set 4 (get := S__law_table.x_law_number) (put := (fun s v => {s with x_law_number := v})) (je_call j__law_pop (ja1_bo 1 rfl ja1_nil) (ja2_ns 1 rfl ja2_nil) (ja3_ns 1 (get := S__law_table.x_law_draws_here) (put := (fun s v => {s with x_law_draws_here := v})) (by intro _ _; rfl) (by intro _; repeat (first | exact Fr.nil | refine Fr.som (fun _ _ h => h) ?_ | refine Fr.non ?_)) ja3_nil)))
  (js_seq (js_set 5 (get := S__law_table.x_law_mask) (put := (fun s v => {s with x_law_mask := v})) (je_s (jp_op jo_I (jp_v 4 rfl) (jp_op jo_I (jp_i 1) (jp_v 0 rfl)))))
  (js_seq (js_set 6 (get := S__law_table.x_law_most) (put := (fun s v => {s with x_law_most := v})) (je_s (jp_op jo_I0 (jp_i 1) (jp_op jo_I (jp_op jo_I (jp_v 4 rfl) (jp_i 16)) (jp_i 3)))))
  (js_seq (js_set 7 (get := S__law_table.x_law_times) (put := (fun s v => {s with x_law_times := v})) (je_s (jp_op jo_ix (jp_lst (jpl_cons (jp_i 1) (jpl_cons (jp_i 2) (jpl_cons (jp_op jo_I0 (jp_i 1) (jp_op jo_I (jp_op jo_I (jp_v 4 rfl) (jp_i 48)) (jp_i 5))) (jpl_cons (jp_op jo_I0 (jp_i 1) (jp_op jo_I (jp_v 4 rfl) (jp_i 48))) jpl_nil))))) (jp_op jo_I (jp_op jo_I (jp_v 4 rfl) (jp_i 240)) (jp_i 4)))))
  (js_set 2 (get := S__law_table.x_law_table_here) (put := (fun s v => {s with x_law_table_here := v})) (je_lc (ji_r1 (je_s (jp_b1 jb_len (jp_v 2 rfl)))) Le.refl (jgc1 10 rfl) (fun x9 => jt_true) (fun x9 => (je_op jo_I0 (je_s (jp_op jo_ix (jp_v 2 rfl) (jp_v 10 rfl))) (je_op jo_mul (je_s (jp_v 7 rfl)) (je_b2 jb_min (je_s (jp_v 6 rfl)) (je_call j__law_bits (ja1_ex (je_s (jp_op jo_I0 (jp_v 5 rfl) (jp_op jo_I0 (jp_v 10 rfl) (jp_i 1)))) ja1_nil) (ja2_ex ja2_nil) (ja3_ex ja3_nil)))))))))))))
  (js_seq (js_set 4 (get := S__law_table.x_law_number) (put := (fun s v => {s with x_law_number := v})) (je_call j__law_pop (ja1_bo 1 rfl ja1_nil) (ja2_ns 1 rfl ja2_nil) (ja3_ns 1 (get := S__law_table.x_law_draws_here) (put := (fun s v => {s with x_law_draws_here := v})) (by intro _ _; rfl) (by intro _; repeat (first | exact Fr.nil | refine Fr.som (fun _ _ h => h) ?_ | refine Fr.non ?_)) ja3_nil)))
  (js_seq (js_if (Γ' := [some ⟨S__law_table.x_law_n, rI⟩, some ⟨S__law_table.x_law_draws_here, (rL rI)⟩, some ⟨S__law_table.x_law_table_here, (rL rI)⟩, none, some ⟨S__law_table.x_law_number, rI⟩, none, none, none, none, none]) (jt_and (jt_e (je_op jo_eq (je_s (jp_v 0 rfl)) (je_s (jp_i 4)))) (jt_e (je_op jo_eq (je_s (jp_op jo_I (jp_v 4 rfl) (jp_i 3))) (je_s (jp_i 0))))) (js_seq (js_set 8 (get := S__law_table.x_law_pair) (put := (fun s v => {s with x_law_pair := v})) (je_s (jp_op jo_ix (jp_lst (jpl_cons (jp_i 3) (jpl_cons (jp_i 5) (jpl_cons (jp_i 6) (jpl_cons (jp_i 9) (jpl_cons (jp_i 10) (jpl_cons (jp_i 12) jpl_nil))))))) (jp_op jo_I (jp_op jo_I (jp_v 4 rfl) (jp_i 3)) (jp_i 6)))))
  (js_seq (js_set 9 (get := S__law_table.x_law_four) (put := (fun s v => {s with x_law_four := v})) (je_lc (ji_r1 (je_s (jp_i 15))) Le.refl (jgc1 10 rfl) (fun x11 => jt_true) (fun x11 => (je_op jo_I0 (je_ix (je_lst (r := rI) (jl_cons (je_s (jp_i 2)) (jl_cons (je_s (jp_i 3)) (jl_cons (je_s (jp_i 4)) (jl_cons (je_s (jp_i 4)) jl_nil))))) (je_op jo_I0 (je_call j__law_bits (ja1_ex (je_s (jp_op jo_I0 (jp_v 10 rfl) (jp_i 1))) ja1_nil) (ja2_ex ja2_nil) (ja3_ex ja3_nil)) (je_s (jp_i 1)))) (je_s (jp_b1 jb_intB (jp_op jo_eq (jp_op jo_I0 (jp_v 10 rfl) (jp_i 1)) (jp_v 8 rfl))))))))
  (js_set 2 (get := S__law_table.x_law_table_here) (put := (fun s v => {s with x_law_table_here := v})) (je_lc (ji_r1 (je_s (jp_i 15))) Le.refl (jgc1 10 rfl) (fun x12 => jt_true) (fun x12 => (je_s (jp_op jo_I0 (jp_op jo_ix (jp_v 2 rfl) (jp_v 10 rfl)) (jp_op jo_ix (jp_v 9 rfl) (jp_v 10 rfl))))))))) js_skip)
  (js_ret (je_mv 2 rfl) inferInstance (by first | exact Le.refl | (repeat (first | exact Le.nil | refine Le.som inferInstance ?_ | refine Le.non ?_)))))))) (jout_keep (by decide) rfl (jout_keep (by decide) rfl jout_nil))⟩
noncomputable def t__law_table := T__law_table.1
theorem j__law_table : JF g__law_table t__law_table (Pc rI (Pc (rL rI) Pn)) (rL rI) (Pc rI (Pc (rL rI) Pn)) := T__law_table.2
set_option genInjectivity false in
set_option genSizeOfSpec false in
set_option genSizeOf false in
structure S_rule_rows where
 xn : Int
noncomputable def T_rule_rows : {f : (Int × Unit) → Option ((List (List Int)) × (Int × Unit)) // JF g_rule_rows f (Pc rI Pn) (rL (rL rI)) (Pc rI Pn)} := ⟨_, by
 exact jf_rt (S := S_rule_rows) (N := 1) (W := []) (c := c_rule_rows) (Γn := []) (ro := (rL (rL rI))) (Γp := [some ⟨S_rule_rows.xn, rI⟩]) (Γr := [some ⟨S_rule_rows.xn, rI⟩]) (init := (fun p => (⟨p.1⟩ : S_rule_rows))) (jin_cons (get := S_rule_rows.xn) (by decide) (fun _ => rfl) fun _ => jin_nil)
  (js_ret (je_lc (ji_lst (je_call j_rules (ja1_bo 0 rfl ja1_nil) (ja2_sc 0 rfl ja2_nil) (ja3_sc 0 ja3_nil))) Le.refl (jgc1 1 rfl) (fun x14 => jt_true) (fun x14 => (je_call j_rule_row (ja1_bo 0 rfl (ja1_bo 1 rfl ja1_nil)) (ja2_sc 0 rfl (ja2_ns 1 rfl ja2_nil)) (ja3_sc 0 (ja3_any 1 ja3_nil))))) inferInstance (by first | exact Le.refl | (repeat (first | exact Le.nil | refine Le.som inferInstance ?_ | refine Le.non ?_)))) (jout_keep (by decide) rfl jout_nil)⟩
noncomputable def t_rule_rows := T_rule_rows.1
theorem j_rule_rows : JF g_rule_rows t_rule_rows (Pc rI Pn) (rL (rL rI)) (Pc rI Pn) := T_rule_rows.2
set_option genInjectivity false in
set_option genSizeOfSpec false in
set_option genSizeOf false in
structure S_value where
 xrow : List Int
 xtable : List Int
noncomputable def T_value : {f : ((List Int) × (List Int) × Unit) → Option (Int × ((List Int) × (List Int) × Unit)) // JF g_value f (Pc (rM rI) (Pc (rL rI) Pn)) rI (Pc (rM rI) (Pc (rM rI) Pn))} := ⟨_, by
 exact jf_rt (S := S_value) (N := 2) (W := []) (c := c_value) (Γn := []) (ro := rI) (Γp := [some ⟨S_value.xrow, (rM rI)⟩, some ⟨S_value.xtable, (rL rI)⟩]) (Γr := [some ⟨S_value.xrow, (rM rI)⟩, some ⟨S_value.xtable, (rM rI)⟩]) (init := (fun p => (⟨p.1, p.2.1⟩ : S_value))) (jin_cons (get := S_value.xrow) (by decide) (fun _ => rfl) fun _ => (jin_cons (get := S_value.xtable) (by decide) (fun _ => rfl) fun _ => jin_nil))
  (js_ret (je_b1 jb_sum (je_lc (ji_zip (je_cp 0 rfl) (je_cp 1 rfl)) Le.refl (jgc2 2 3 rfl rfl) (fun x15 => jt_true) (fun x15 => (je_s (jp_op jo_mul (jp_v 2 rfl) (jp_v 3 rfl)))))) inferInstance (by first | exact Le.refl | (repeat (first | exact Le.nil | refine Le.som inferInstance ?_ | refine Le.non ?_)))) (jout_keep (by decide) rfl (jout_keep (by decide) rfl jout_nil))⟩
noncomputable def t_value := T_value.1
theorem j_value_2 : JF g_value t_value (Pc (rM rI) (Pc (rM rI) Pn)) rI (Pc (rM rI) (Pc (rM rI) Pn)) := by
 unfold t_value T_value
 exact jf_rt (S := S_value) (N := 2) (W := []) (c := c_value) (Γn := []) (ro := rI) (Γp := [some ⟨S_value.xrow, (rM rI)⟩, some ⟨S_value.xtable, (rM rI)⟩]) (Γr := [some ⟨S_value.xrow, (rM rI)⟩, some ⟨S_value.xtable, (rM rI)⟩]) (init := (fun p => (⟨p.1, p.2.1⟩ : S_value))) (jin_cons (get := S_value.xrow) (by decide) (fun _ => rfl) fun _ => (jin_cons (get := S_value.xtable) (by decide) (fun _ => rfl) fun _ => jin_nil))
  (js_ret (je_b1 jb_sum (je_lc (ji_zip (je_cp 0 rfl) (je_cp 1 rfl)) Le.refl (jgc2 2 3 rfl rfl) (fun x16 => jt_true) (fun x16 => (je_s (jp_op jo_mul (jp_v 2 rfl) (jp_v 3 rfl)))))) inferInstance (by first | exact Le.refl | (repeat (first | exact Le.nil | refine Le.som inferInstance ?_ | refine Le.non ?_)))) (jout_keep (by decide) rfl (jout_keep (by decide) rfl jout_nil))
set_option genInjectivity false in
set_option genSizeOfSpec false in
set_option genSizeOf false in
structure S_keeps_rules where
 xn : Int
 xtable : List Int
noncomputable def T_keeps_rules : {f : (Int × (List Int) × Unit) → Option (Bool × (Int × (List Int) × Unit)) // JF g_keeps_rules f (Pc rI (Pc (rL rI) Pn)) rB (Pc rI (Pc (rM rI) Pn))} := ⟨_, by
 exact jf_rt (S := S_keeps_rules) (N := 2) (W := []) (c := c_keeps_rules) (Γn := []) (ro := rB) (Γp := [some ⟨S_keeps_rules.xn, rI⟩, some ⟨S_keeps_rules.xtable, (rL rI)⟩]) (Γr := [some ⟨S_keeps_rules.xn, rI⟩, some ⟨S_keeps_rules.xtable, (rM rI)⟩]) (init := (fun p => (⟨p.1, p.2.1⟩ : S_keeps_rules))) (jin_cons (get := S_keeps_rules.xn) (by decide) (fun _ => rfl) fun _ => (jin_cons (get := S_keeps_rules.xtable) (by decide) (fun _ => rfl) fun _ => jin_nil))
  (js_ret (je_b1 jb_all (je_lc (Γh := [some ⟨S_keeps_rules.xn, rI⟩, some ⟨S_keeps_rules.xtable, (rM rI)⟩]) (ji_lst (je_call j_rule_rows (ja1_bo 0 rfl ja1_nil) (ja2_sc 0 rfl ja2_nil) (ja3_sc 0 ja3_nil))) (by repeat (first | exact Le.nil | refine Le.som inferInstance ?_ | refine Le.non ?_)) (jgc1 2 rfl) (fun x13 => jt_true) (fun x13 => (je_op jo_B0 (je_call j_value_2 (ja1_bo 2 rfl (ja1_bo 1 rfl ja1_nil)) (ja2_ns 2 rfl (ja2_ns 1 rfl ja2_nil)) (ja3_any 2 (ja3_ns 1 (get := S_keeps_rules.xtable) (put := (fun s v => {s with xtable := v})) (by intro _ _; rfl) (by intro _; repeat (first | exact Fr.nil | refine Fr.som (fun _ _ h => h) ?_ | refine Fr.non ?_)) ja3_nil))) (je_s (jp_i 0)))))) inferInstance (by first | exact Le.refl | (repeat (first | exact Le.nil | refine Le.som inferInstance ?_ | refine Le.non ?_)))) (jout_keep (by decide) rfl (jout_keep (by decide) rfl jout_nil))⟩
noncomputable def t_keeps_rules := T_keeps_rules.1
theorem j_keeps_rules : JF g_keeps_rules t_keeps_rules (Pc rI (Pc (rL rI) Pn)) rB (Pc rI (Pc (rM rI) Pn)) := T_keeps_rules.2
set_option genInjectivity false in
set_option genSizeOfSpec false in
set_option genSizeOf false in
structure S__law_value where
 x_law_row : List Int
 x_law_table_here : List Int
noncomputable def T__law_value : {f : ((List Int) × (List Int) × Unit) → Option (Int × ((List Int) × (List Int) × Unit)) // JF g__law_value f (Pc (rM rI) (Pc (rM rI) Pn)) rI (Pc (rM rI) (Pc (rM rI) Pn))} := ⟨_, by
 exact jf_rt (S := S__law_value) (N := 2) (W := []) (c := c__law_value) (Γn := []) (ro := rI) (Γp := [some ⟨S__law_value.x_law_row, (rM rI)⟩, some ⟨S__law_value.x_law_table_here, (rM rI)⟩]) (Γr := [some ⟨S__law_value.x_law_row, (rM rI)⟩, some ⟨S__law_value.x_law_table_here, (rM rI)⟩]) (init := (fun p => (⟨p.1, p.2.1⟩ : S__law_value))) (jin_cons (get := S__law_value.x_law_row) (by decide) (fun _ => rfl) fun _ => (jin_cons (get := S__law_value.x_law_table_here) (by decide) (fun _ => rfl) fun _ => jin_nil))
  (js_ret (je_b1 jb_sum (je_lc (ji_r1 (je_s (jp_b1 jb_len (jp_v 0 rfl)))) Le.refl (jgc1 2 rfl) (fun x18 => jt_true) (fun x18 => (je_s (jp_op jo_mul (jp_op jo_ix (jp_v 0 rfl) (jp_v 2 rfl)) (jp_op jo_ix (jp_v 1 rfl) (jp_v 2 rfl))))))) inferInstance (by first | exact Le.refl | (repeat (first | exact Le.nil | refine Le.som inferInstance ?_ | refine Le.non ?_)))) (jout_keep (by decide) rfl (jout_keep (by decide) rfl jout_nil))⟩
noncomputable def t__law_value := T__law_value.1
theorem j__law_value : JF g__law_value t__law_value (Pc (rM rI) (Pc (rM rI) Pn)) rI (Pc (rM rI) (Pc (rM rI) Pn)) := T__law_value.2
set_option genInjectivity false in
set_option genSizeOfSpec false in
set_option genSizeOf false in
structure S_law where
 x_law_script : List Int
 x_law_draws_here : List Int
 x_law_n : Int
 x_law_found : List PyData
 x_law_rows : List (List Int)
 x_law_turn : Int
 x_law_table_here : List Int
 x_law_number : Int
 x_law_at : Int
 x_law_kept : List Int
 x_law_told : Bool
 x_law_due : Bool
noncomputable def T_law : {f : ((List Int) × Unit) → Option (Bool × ((List Int) × Unit)) // JF g_law f (Pc (rM rI) Pn) rB (Pc (rM rI) Pn)} := ⟨_, by
 exact jf_rt (S := S_law) (N := 12) (W := [1, 2, 3, 4, 5, 6, 7, 8, 9, 10, 11]) (c := c_law) (Γn := []) (ro := rB) (Γp := [some ⟨S_law.x_law_script, (rM rI)⟩]) (Γr := [some ⟨S_law.x_law_script, (rM rI)⟩, none, none, none, none, none, none, none, none, none, none, none]) (init := (fun p => (⟨p.1, [], 0, [], [], 0, [], 0, 0, [], false, false⟩ : S_law))) (jin_cons (get := S_law.x_law_script) (by decide) (fun _ => rfl) fun _ => jin_nil)
  (js_seq (js_set 1 (get := S_law.x_law_draws_here) (put := (fun s v => {s with x_law_draws_here := v})) (je_call j__law_draws (ja1_bo 0 rfl (ja1_ex (je_s (jp_i 1)) (ja1_ex (je_s (jp_i 200)) ja1_nil))) (ja2_ns 0 rfl (ja2_ex (ja2_ex ja2_nil))) (ja3_ns 0 (get := S_law.x_law_script) (put := (fun s v => {s with x_law_script := v})) (by intro _ _; rfl) (by intro _; repeat (first | exact Fr.nil | refine Fr.som (fun _ _ h => h) ?_ | refine Fr.non ?_)) (ja3_ex (ja3_ex ja3_nil)))))
  (js_seq (js_for (ji_lst (je_lst (r := rI) (jl_cons (je_s (jp_i 1)) (jl_cons (je_s (jp_i 2)) (jl_cons (je_s (jp_i 3)) (jl_cons (je_s (jp_i 4)) jl_nil)))))) Le.refl (jg_nm 2 (get := S_law.x_law_n) (put := (fun s v => {s with x_law_n := v}))) (js_seq (js_set 3 (get := S_law.x_law_found) (put := (fun s v => {s with x_law_found := v})) (je_call j_rules (ja1_bo 2 rfl ja1_nil) (ja2_sc 2 rfl ja2_nil) (ja3_sc 2 ja3_nil)))
  (js_seq (js_set 4 (get := S_law.x_law_rows) (put := (fun s v => {s with x_law_rows := v})) (je_lcB (get := S_law.x_law_found) (r' := rQ) rfl rfl (fun x4 => jt_true) (fun x4 => (je_call j_rule_row (ja1_bo 2 rfl (ja1_ex (je_cp 12 rfl) ja1_nil)) (ja2_sc 2 rfl (ja2_ex ja2_nil)) (ja3_sc 2 (ja3_ex ja3_nil))))))
  (js_seq (js_if (Γ' := [some ⟨S_law.x_law_script, (rM rI)⟩, some ⟨S_law.x_law_draws_here, (rL rI)⟩, some ⟨S_law.x_law_n, rI⟩, some ⟨S_law.x_law_found, (rL rQ)⟩, some ⟨S_law.x_law_rows, (rL (rL rI))⟩, none, none, none, none, none, none, none]) (jt_e (je_op jo_neX (je_s (jp_str2 (jp_v 3 rfl) (jp_v 4 rfl))) (je_str2 (je_call j__law_named (ja1_bo 2 rfl ja1_nil) (ja2_sc 2 rfl ja2_nil) (ja3_sc 2 ja3_nil)) (je_call j__law_rules (ja1_bo 2 rfl ja1_nil) (ja2_sc 2 rfl ja2_nil) (ja3_sc 2 ja3_nil))))) js_dead js_skip)
  (js_seq (js_drop (je_clr 3 (get := S_law.x_law_found) (put := (fun s v => {s with x_law_found := v})) rfl))
  (js_seq (js_drop (je_app0 4 (get := S_law.x_law_rows) (put := (fun s v => {s with x_law_rows := v})) (jp_i 1) rfl))
  (js_seq (js_if (Γ' := [some ⟨S_law.x_law_script, (rM rI)⟩, some ⟨S_law.x_law_draws_here, (rL rI)⟩, some ⟨S_law.x_law_n, rI⟩, some ⟨S_law.x_law_found, (rL rQ)⟩, some ⟨S_law.x_law_rows, (rL (rL rI))⟩, none, none, none, none, none, none, none]) (jt_or (jt_e (je_op jo_ne (je_call j_rules (ja1_bo 2 rfl ja1_nil) (ja2_sc 2 rfl ja2_nil) (ja3_sc 2 ja3_nil)) (je_call j__law_named (ja1_bo 2 rfl ja1_nil) (ja2_sc 2 rfl ja2_nil) (ja3_sc 2 ja3_nil)))) (jt_e (je_op jo_ne (je_call j_rule_row (ja1_bo 2 rfl (ja1_ex (je_cq (je_t2 (je_s (jp_s "last")) (je_s (jp_i 0)))) ja1_nil)) (ja2_sc 2 rfl (ja2_ex ja2_nil)) (ja3_sc 2 (ja3_ex ja3_nil))) (je_ix (je_call j__law_rules (ja1_bo 2 rfl ja1_nil) (ja2_sc 2 rfl ja2_nil) (ja3_sc 2 ja3_nil)) (je_s (jp_i 0)))))) js_dead js_skip)
  (js_for (ji_r1 (je_s (jp_i 4))) Le.refl (jg_nm 5 (get := S_law.x_law_turn) (put := (fun s v => {s with x_law_turn := v}))) (js_seq (js_set 6 (get := S_law.x_law_table_here) (put := (fun s v => {s with x_law_table_here := v})) (je_call j__law_table (ja1_bo 2 rfl (ja1_bo 1 rfl ja1_nil)) (ja2_sc 2 rfl (ja2_ns 1 rfl ja2_nil)) (ja3_sc 2 (ja3_ns 1 (get := S_law.x_law_draws_here) (put := (fun s v => {s with x_law_draws_here := v})) (by intro _ _; rfl) (by intro _; repeat (first | exact Fr.nil | refine Fr.som (fun _ _ h => h) ?_ | refine Fr.non ?_)) ja3_nil))))
  (js_seq (js_set 7 (get := S_law.x_law_number) (put := (fun s v => {s with x_law_number := v})) (je_call j__law_pop (ja1_bo 1 rfl ja1_nil) (ja2_ns 1 rfl ja2_nil) (ja3_ns 1 (get := S_law.x_law_draws_here) (put := (fun s v => {s with x_law_draws_here := v})) (by intro _ _; rfl) (by intro _; repeat (first | exact Fr.nil | refine Fr.som (fun _ _ h => h) ?_ | refine Fr.non ?_)) ja3_nil)))
  (js_seq (js_if (Γ' := [some ⟨S_law.x_law_script, (rM rI)⟩, some ⟨S_law.x_law_draws_here, (rL rI)⟩, some ⟨S_law.x_law_n, rI⟩, some ⟨S_law.x_law_found, (rL rQ)⟩, some ⟨S_law.x_law_rows, (rL (rL rI))⟩, some ⟨S_law.x_law_turn, rI⟩, some ⟨S_law.x_law_table_here, (rL rI)⟩, some ⟨S_law.x_law_number, rI⟩, none, none, none, none]) (jt_e (je_op jo_B0 (je_s (jp_op jo_I (jp_v 7 rfl) (jp_i 3))) (je_s (jp_i 0)))) (js_seq (js_set 8 (get := S_law.x_law_at) (put := (fun s v => {s with x_law_at := v})) (je_s (jp_op jo_I (jp_op jo_I (jp_v 7 rfl) (jp_i 3)) (jp_b1 jb_len (jp_v 6 rfl)))))
  (js_setS 6 (get := S_law.x_law_table_here) (put := (fun s v => {s with x_law_table_here := v})) (je_s (jp_op jo_I0 (jp_op jo_ix (jp_v 6 rfl) (jp_v 8 rfl)) (jp_op jo_ix (jp_lst (jpl_cons (jp_i 1) (jpl_cons (jp_neg (jp_i 1)) (jpl_cons (jp_v 7 rfl) (jpl_cons (jp_neg (jp_i 3)) jpl_nil))))) (jp_op jo_I (jp_op jo_I (jp_v 7 rfl) (jp_i 48)) (jp_i 4))))) (jp_v 8 rfl) rfl)) js_skip)
  (js_seq (js_set 9 (get := S_law.x_law_kept) (put := (fun s v => {s with x_law_kept := v})) (je_listB (jp_v 6 rfl)))
  (js_seq (js_set 10 (get := S_law.x_law_told) (put := (fun s v => {s with x_law_told := v})) (je_call j_keeps_rules (ja1_bo 2 rfl (ja1_bo 6 rfl ja1_nil)) (ja2_sc 2 rfl (ja2_ns 6 rfl ja2_nil)) (ja3_sc 2 (ja3_ns 6 (get := S_law.x_law_table_here) (put := (fun s v => {s with x_law_table_here := v})) (by intro _ _; rfl) (by intro _; repeat (first | exact Fr.nil | refine Fr.som (fun _ _ h => h) ?_ | refine Fr.non ?_)) ja3_nil))))
  (js_seq (js_set 11 (get := S_law.x_law_due) (put := (fun s v => {s with x_law_due := v})) (je_op jo_eq (je_lc (ji_lst (je_call j__law_rules (ja1_bo 2 rfl ja1_nil) (ja2_sc 2 rfl ja2_nil) (ja3_sc 2 ja3_nil))) Le.refl (jgc1 12 rfl) (fun x17 => (jt_e (je_op jo_B0 (je_call j__law_value (ja1_ex (je_cp 12 rfl) (ja1_bo 6 rfl ja1_nil)) (ja2_ex (ja2_ns 6 rfl ja2_nil)) (ja3_ex (ja3_ns 6 (get := S_law.x_law_table_here) (put := (fun s v => {s with x_law_table_here := v})) (by intro _ _; rfl) (by intro _; repeat (first | exact Fr.nil | refine Fr.som (fun _ _ h => h) ?_ | refine Fr.non ?_)) ja3_nil))) (je_s (jp_i 0))))) (fun x17 => (je_cp 12 rfl))) (je_lst (jl_nil (r := (rM rI))))))
  (js_if (Γ' := [some ⟨S_law.x_law_script, (rM rI)⟩, some ⟨S_law.x_law_draws_here, (rL rI)⟩, some ⟨S_law.x_law_n, rI⟩, some ⟨S_law.x_law_found, (rL rQ)⟩, some ⟨S_law.x_law_rows, (rL (rL rI))⟩, some ⟨S_law.x_law_turn, rI⟩, some ⟨S_law.x_law_table_here, (rM rI)⟩, some ⟨S_law.x_law_number, rI⟩, none, some ⟨S_law.x_law_kept, (rL rI)⟩, some ⟨S_law.x_law_told, rB⟩, some ⟨S_law.x_law_due, rB⟩]) (jt_or (jt_not (jt_e (je_s (jp_b2 jb_isi (jp_v 10 rfl) (jp_ty "bool"))))) (jt_or (jt_e (je_op jo_ne (je_s (jp_v 10 rfl)) (je_s (jp_v 11 rfl)))) (jt_e (je_s (jp_op jo_ne (jp_v 6 rfl) (jp_v 9 rfl)))))) js_dead js_skip)))))))))))))))
  (js_ret (je_s (jp_b true)) inferInstance (by first | exact Le.refl | (repeat (first | exact Le.nil | refine Le.som inferInstance ?_ | refine Le.non ?_)))))) (jout_keep (by decide) rfl jout_nil)⟩
noncomputable def t_law := T_law.1
theorem j_law : JF g_law t_law (Pc (rM rI) Pn) rB (Pc (rM rI) Pn) := T_law.2
end LW
namespace LW
open PySem L2 DD TT
noncomputable def Cn (n : Int) (G : Nat) : Prop := (n = 1 ∧ G = 1) ∨ (n = 2 ∧ G = 3) ∨ (n = 3 ∧ G = 7) ∨ (n = 4 ∧ G = 15)
theorem Cn.le {n : Int} {G : Nat} (h : Cn n G) : 1 ≤ n ∧ n ≤ 4 ∧ 1 ≤ G ∧ G ≤ 15 := by rcases h with ⟨rfl, rfl⟩ | ⟨rfl, rfl⟩ | ⟨rfl, rfl⟩ | ⟨rfl, rfl⟩ <;> decide
theorem Cn.shl {n : Int} {G : Nat} (h : Cn n G) : (1 : Int) * 2 ^ n.toNat = G + 1 ∧ decide (0 ≤ n ∧ n ≤ 1000000 ∧ Int.natAbs 1 < 2 ^ 64) = true := by
 rcases h with ⟨rfl, rfl⟩ | ⟨rfl, rfl⟩ | ⟨rfl, rfl⟩ | ⟨rfl, rfl⟩ <;> decide
noncomputable def Bd (ns : List Int) : Prop := ∀ m ∈ ns, 0 ≤ m ∧ m < 2147483648
theorem Bd.nil : Bd [] := fun m h => by cases h
theorem Bd.snoc {ns : List Int} {x : Int} (h : Bd ns) (h0 : 0 ≤ x) (h1 : x < 2147483648) : Bd (ns ++ [x]) := fun q hq => by
 rcases List.mem_append.mp hq with z | z
 ·exact h q z
 ·rw [List.mem_singleton.mp z]; exact ⟨h0, h1⟩
theorem pop_t {ms : List Int} (h : Bd ms) : ∃ m ms', Bd ms' ∧ (0 ≤ m ∧ m < 2147483648) ∧ t__law_pop (ms, ()) = some (m, ms', ()) := by
 rcases List.eq_nil_or_concat ms with rfl | ⟨xs, x, rfl⟩
 ·refine ⟨0, [], h, by omega, ?_⟩
  unfold t__law_pop T__law_pop
  simp only [TT.tSeq, bind_some, map_some, ift okLL, eqL_nil, List.isEmpty_nil, if_true]
 ·rw [List.concat_eq_append] at *
  refine ⟨x, xs, fun q hq => h q (by simp [hq]), h x (by simp), ?_⟩
  have he : (xs ++ [x]).isEmpty = false := by cases xs <;> rfl
  have hl : (xs ++ [x])[(xs ++ [x]).length - 1]? = some x := by simp
  have hd : (xs ++ [x]).dropLast = xs := by simp
  unfold t__law_pop T__law_pop
  simp only [TT.tSeq, bind_some, map_some, ift okLL, eqL_nil, he, Bool.false_eq_true, if_false, hl, hd]
theorem cut_len {α : Type} {xs : List α} {lo hi : Option Int} : (cutG xs lo hi).length ≤ xs.length := by
 unfold cutG
 rw [List.length_take, List.length_drop]; omega
theorem rng_get {lo hi x : Int} {k : Nat} (h : (rng lo hi)[k]? = some x) : x = lo + k ∧ k < (hi - lo).toNat := by
 unfold rng at h
 simp only [List.getElem?_map, Option.map_eq_some_iff] at h
 obtain ⟨a, ha, rfl⟩ := h
 obtain ⟨h1, h2⟩ := List.getElem?_eq_some_iff.mp ha
 simp only [List.length_range] at h1
 simp only [List.getElem_range] at h2
 subst h2
 exact ⟨rfl, h1⟩
theorem mod_nat {k : Int} {n : Nat} (hk : 0 ≤ k) (hn : 0 < n) : ∃ j : Nat, k % (n : Int) = (j : Int) ∧ j < n := by
 have h0 := Int.emod_nonneg k (show (n : Int) ≠ 0 by omega)
 have h1 := Int.emod_lt_of_pos k (show (0 : Int) < n by omega)
 exact ⟨(k % n).toNat, by omega, by omega⟩
mutual
noncomputable def beqP : PyData → PyData → Bool
 | .int i, .int j => i == j
 | .str x, .str y => x == y
 | .tuple xs, .tuple ys => beqPL xs ys
 | _, _ => false
noncomputable def beqPL : List PyData → List PyData → Bool
 | [], [] => true
 | x :: xs, y :: ys => beqP x y && beqPL xs ys
 | _, _ => false
end
mutual
theorem beqP_eq : ∀ {a b : PyData}, beqP a b = true → a = b
 | .int i, .int j, h => by simp only [beqP, beq_iff_eq] at h; rw [h]
 | .str x, .str y, h => by simp only [beqP, beq_iff_eq] at h; rw [h]
 | .tuple xs, .tuple ys, h => by simp only [beqP] at h; rw [beqPL_eq h]
 | .int _, .str _, h | .int _, .tuple _, h | .int _, .list _, h | .int _, .none, h | .int _, .bool _, h | .int _, .dict _, h => by simp only [beqP] at h; cases h
 | .str _, .int _, h | .str _, .tuple _, h | .str _, .list _, h | .str _, .none, h | .str _, .bool _, h | .str _, .dict _, h => by simp only [beqP] at h; cases h
 | .tuple _, .int _, h | .tuple _, .str _, h | .tuple _, .list _, h | .tuple _, .none, h | .tuple _, .bool _, h | .tuple _, .dict _, h => by simp only [beqP] at h; cases h
 | .none, _, h => by simp only [beqP] at h; cases h
 | .bool _, _, h => by simp only [beqP] at h; cases h
 | .list _, _, h => by simp only [beqP] at h; cases h
 | .dict _, _, h => by simp only [beqP] at h; cases h
theorem beqPL_eq : ∀ {a b : List PyData}, beqPL a b = true → a = b
 | [], [], _ => rfl
 | x :: xs, y :: ys, h => by
  simp only [beqPL, Bool.and_eq_true] at h
  rw [beqP_eq h.1, beqPL_eq h.2]
 | [], _ :: _, h => by simp only [beqPL] at h; cases h
 | _ :: _, [], h => by simp only [beqPL] at h; cases h
end
noncomputable def RL : Nat → List PyData
 | 1 => [.tuple [.str "last", .int 0]]
 | 2 => [.tuple [.str "last", .int 0], .tuple [.str "last", .int 1], .tuple [.str "pair", .int 0, .int 1, .int 0]]
 | 3 => [.tuple [.str "last", .int 0], .tuple [.str "last", .int 1], .tuple [.str "last", .int 2], .tuple [.str "pair", .int 0, .int 1, .int 0], .tuple [.str "pair", .int 0, .int 1, .int 4], .tuple [.str "pair", .int 0, .int 2, .int 0], .tuple [.str "pair", .int 0, .int 2, .int 2], .tuple [.str "pair", .int 1, .int 2, .int 0], .tuple [.str "pair", .int 1, .int 2, .int 1]]
 | 4 => [.tuple [.str "last", .int 0], .tuple [.str "last", .int 1], .tuple [.str "last", .int 2], .tuple [.str "last", .int 3], .tuple [.str "pair", .int 0, .int 1, .int 0], .tuple [.str "pair", .int 0, .int 1, .int 4], .tuple [.str "pair", .int 0, .int 1, .int 8], .tuple [.str "pair", .int 0, .int 1, .int 12], .tuple [.str "pair", .int 0, .int 2, .int 0], .tuple [.str "pair", .int 0, .int 2, .int 2], .tuple [.str "pair", .int 0, .int 2, .int 8], .tuple [.str "pair", .int 0, .int 2, .int 10], .tuple [.str "pair", .int 0, .int 3, .int 0], .tuple [.str "pair", .int 0, .int 3, .int 2], .tuple [.str "pair", .int 0, .int 3, .int 4], .tuple [.str "pair", .int 0, .int 3, .int 6], .tuple [.str "pair", .int 1, .int 2, .int 0], .tuple [.str "pair", .int 1, .int 2, .int 1], .tuple [.str "pair", .int 1, .int 2, .int 8], .tuple [.str "pair", .int 1, .int 2, .int 9], .tuple [.str "pair", .int 1, .int 3, .int 0], .tuple [.str "pair", .int 1, .int 3, .int 1], .tuple [.str "pair", .int 1, .int 3, .int 4], .tuple [.str "pair", .int 1, .int 3, .int 5], .tuple [.str "pair", .int 2, .int 3, .int 0], .tuple [.str "pair", .int 2, .int 3, .int 1], .tuple [.str "pair", .int 2, .int 3, .int 2], .tuple [.str "pair", .int 2, .int 3, .int 3]]
 | _ => []
noncomputable def RR : Nat → List (List Int)
 | 1 => [[1]]
 | 2 => [[0, -1, 1], [-1, 0, 1], [1, 1, -1]]
 | 3 => [[0, 0, 0, 0, 0, -1, 1], [0, 0, 0, 0, -1, 0, 1], [0, 0, -1, 0, 0, 0, 1], [1, 1, -1, 0, 0, 0, 0], [0, 0, 0, -1, 1, 1, -1], [1, 0, 0, 1, -1, 0, 0], [0, -1, 1, 0, 0, 1, -1], [0, 1, 0, 1, 0, -1, 0], [-1, 0, 1, 0, 1, 0, -1]]
 | 4 => [[0, 0, 0, 0, 0, 0, 0, 0, 0, 0, 0, 0, 0, -1, 1], [0, 0, 0, 0, 0, 0, 0, 0, 0, 0, 0, 0, -1, 0, 1], [0, 0, 0, 0, 0, 0, 0, 0, 0, 0, -1, 0, 0, 0, 1], [0, 0, 0, 0, 0, 0, -1, 0, 0, 0, 0, 0, 0, 0, 1], [1, 1, -1, 0, 0, 0, 0, 0, 0, 0, 0, 0, 0, 0, 0], [0, 0, 0, -1, 1, 1, -1, 0, 0, 0, 0, 0, 0, 0, 0], [0, 0, 0, 0, 0, 0, 0, -1, 1, 1, -1, 0, 0, 0, 0], [0, 0, 0, 0, 0, 0, 0, 0, 0, 0, 0, -1, 1, 1, -1], [1, 0, 0, 1, -1, 0, 0, 0, 0, 0, 0, 0, 0, 0, 0], [0, -1, 1, 0, 0, 1, -1, 0, 0, 0, 0, 0, 0, 0, 0], [0, 0, 0, 0, 0, 0, 0, -1, 1, 0, 0, 1, -1, 0, 0], [0, 0, 0, 0, 0, 0, 0, 0, 0, -1, 1, 0, 0, 1, -1], [1, 0, 0, 0, 0, 0, 0, 1, -1, 0, 0, 0, 0, 0, 0], [0, -1, 1, 0, 0, 0, 0, 0, 0, 1, -1, 0, 0, 0, 0], [0, 0, 0, -1, 1, 0, 0, 0, 0, 0, 0, 1, -1, 0, 0], [0, 0, 0, 0, 0, -1, 1, 0, 0, 0, 0, 0, 0, 1, -1], [0, 1, 0, 1, 0, -1, 0, 0, 0, 0, 0, 0, 0, 0, 0], [-1, 0, 1, 0, 1, 0, -1, 0, 0, 0, 0, 0, 0, 0, 0], [0, 0, 0, 0, 0, 0, 0, -1, 0, 1, 0, 1, 0, -1, 0], [0, 0, 0, 0, 0, 0, 0, 0, -1, 0, 1, 0, 1, 0, -1], [0, 1, 0, 0, 0, 0, 0, 1, 0, -1, 0, 0, 0, 0, 0], [-1, 0, 1, 0, 0, 0, 0, 0, 1, 0, -1, 0, 0, 0, 0], [0, 0, 0, -1, 0, 1, 0, 0, 0, 0, 0, 1, 0, -1, 0], [0, 0, 0, 0, -1, 0, 1, 0, 0, 0, 0, 0, 1, 0, -1], [0, 0, 0, 1, 0, 0, 0, 1, 0, 0, 0, -1, 0, 0, 0], [-1, 0, 0, 0, 1, 0, 0, 0, 1, 0, 0, 0, -1, 0, 0], [0, -1, 0, 0, 0, 1, 0, 0, 0, 1, 0, 0, 0, -1, 0], [0, 0, -1, 0, 0, 0, 1, 0, 0, 0, 1, 0, 0, 0, -1]]
 | _ => []
noncomputable def okR (o : Option (List PyData × Int × Unit)) (n : Nat) : Bool := match o with
 | some (r, m, _) => beqPL r (RL n) && m == (n : Int)
 | none => false
theorem okR_eq {o : Option (List PyData × Int × Unit)} {n : Nat} (h : okR o n = true) : o = some (RL n, (n : Int), ()) := by
 unfold okR at h
 split at h
 ·simp only [Bool.and_eq_true, beq_iff_eq] at h
  rw [beqPL_eq h.1, h.2]
 ·cases h
theorem rules1 : okR (t_rules (1, ())) 1 = true := by decide +kernel
theorem rules2 : okR (t_rules (2, ())) 2 = true := by decide +kernel
theorem rules3 : okR (t_rules (3, ())) 3 = true := by decide +kernel
theorem rules4 : okR (t_rules (4, ())) 4 = true := by decide +kernel
theorem lrul1 : t__law_rules (1, ()) = some (RR 1, 1, ()) := by decide +kernel
theorem lrul2 : t__law_rules (2, ()) = some (RR 2, 2, ()) := by decide +kernel
theorem lrul3 : t__law_rules (3, ()) = some (RR 3, 3, ()) := by decide +kernel
theorem lrul4 : t__law_rules (4, ()) = some (RR 4, 4, ()) := by decide +kernel
theorem rules_t {n : Int} {G : Nat} (h : Cn n G) : t_rules (n, ()) = some (RL n.toNat, n, ()) := by
 rcases h with ⟨rfl, rfl⟩ | ⟨rfl, rfl⟩ | ⟨rfl, rfl⟩ | ⟨rfl, rfl⟩
 ·exact okR_eq rules1
 ·exact okR_eq rules2
 ·exact okR_eq rules3
 ·exact okR_eq rules4
theorem lrul_t {n : Int} {G : Nat} (h : Cn n G) : t__law_rules (n, ()) = some (RR n.toNat, n, ()) := by
 rcases h with ⟨rfl, rfl⟩ | ⟨rfl, rfl⟩ | ⟨rfl, rfl⟩ | ⟨rfl, rfl⟩
 ·exact lrul1
 ·exact lrul2
 ·exact lrul3
 ·exact lrul4
noncomputable def okQ (p : PyData) : Bool := p.canLay0 && decide (p.depth ≤ 40)
theorem RL_ok {n : Int} {G : Nat} (h : Cn n G) : ∀ r ∈ RL n.toNat, okQ r = true := by
 have : (RL n.toNat).all okQ = true := by rcases h with ⟨rfl, rfl⟩ | ⟨rfl, rfl⟩ | ⟨rfl, rfl⟩ | ⟨rfl, rfl⟩ <;> decide +kernel
 exact List.all_eq_true.mp this
theorem RL_len {n : Int} {G : Nat} (h : Cn n G) : (RL n.toNat).length = (RR n.toNat).length ∧ (RR n.toNat).length ≤ 28 ∧ 1 ≤ (RR n.toNat).length ∧ ∀ r ∈ RR n.toNat, r.length = G ∧ ∀ x ∈ r, -2 ≤ x ∧ x ≤ 2 := by
 rcases h with ⟨rfl, rfl⟩ | ⟨rfl, rfl⟩ | ⟨rfl, rfl⟩ | ⟨rfl, rfl⟩ <;> decide +kernel
theorem atI_getD {α : Type} {xs : List α} {k : Nat} {d : α} (h : k < xs.length) : atI xs (k : Int) = some (xs.getD k d) := by
 rw [at_nat h]; simp [List.getD, h]
theorem rng_map {G : Nat} : rng 0 (G : Int) = (List.range G).map fun (k : Nat) => (k : Int) := by
 unfold rng
 simp
theorem lc_rng {S β : Type} {ft : Int → S → Option (Bool × S)} {fe : Int → S → Option (β × S)} {s : S} {G : Nat} {f : Nat → β} (h : ∀ k, k < G → ft (k : Int) s = some (true, s)) (k : ∀ k, k < G → fe (k : Int) s = some (f k, s)) : TT.tLc ft fe (rng 0 (G : Int)) s = some ((List.range G).map f, s) := by
 rw [rng_map]
 have : ∀ xs : List Nat, (∀ x ∈ xs, x < G) → TT.tLc ft fe (xs.map fun (k : Nat) => (k : Int)) s = some (xs.map f, s) := by
  intro xs
  induction xs with
  | nil => intro _; rfl
  | cons x xs ih =>
   intro hx
   have h1 := hx x (by simp)
   simp only [List.map_cons, TT.tLc, h x h1, k x h1, bind_some, if_true, ih (fun y hy => hx y (by simp [hy])), map_some]
 exact this _ fun x hx => List.mem_range.mp hx
noncomputable def dot (r xs : List Int) : Int := ((r.zip xs).map fun z => z.1 * z.2).sum
noncomputable def Sm (xs : List Int) : Prop := ∀ x ∈ xs, -1000000000000 ≤ x ∧ x ≤ 1000000000000
theorem rrow1 : t_rule_rows (1, ()) = some (RR 1, 1, ()) := by decide +kernel
theorem rrow2 : t_rule_rows (2, ()) = some (RR 2, 2, ()) := by decide +kernel
theorem rrow3 : t_rule_rows (3, ()) = some (RR 3, 3, ()) := by decide +kernel
theorem rrow4 : t_rule_rows (4, ()) = some (RR 4, 4, ()) := by decide +kernel
theorem rrow_t {n : Int} {G : Nat} (h : Cn n G) : t_rule_rows (n, ()) = some (RR n.toNat, n, ()) := by
 rcases h with ⟨rfl, rfl⟩ | ⟨rfl, rfl⟩ | ⟨rfl, rfl⟩ | ⟨rfl, rfl⟩
 ·exact rrow1
 ·exact rrow2
 ·exact rrow3
 ·exact rrow4
theorem val_t {r xs : List Int} (hr : r.length ≤ 100) (hx : Sm xs) : t_value (r, xs, ()) = some (dot r xs, r, xs, ()) := by
 have hz : szC (r.zip xs).length = true := szc (by rw [List.length_zip]; omega)
 unfold t_value T_value
 simp only [bind_some, map_some, ift hz]
 rw [lc_map (f := fun z : Int × Int => z.1 * z.2) (fun _ _ => rfl) (fun z hm => ?_)]
 ·rfl
 ·have := hx z.2 (List.of_mem_zip hm).2
  simp only [ift (mulc (x := z.1) (y := z.2) (by omega)), map_some]
theorem zip_rng2 {r xs : List Int} (hl : r.length = xs.length) : ((List.range r.length).map fun k => r.getD k 0 * xs.getD k 0) = (r.zip xs).map fun z => z.1 * z.2 := by
 apply List.ext_getElem
 ·simp [hl]
 ·intro i h1 h2
  have h3 : i < xs.length := by simpa [hl] using h1
  simp [List.getD, hl, h3]
theorem getD_mem {xs : List Int} {k : Nat} (h : k < xs.length) : xs.getD k 0 ∈ xs := by simp [List.getD, h]
theorem lval_t {r xs : List Int} (hr : r.length ≤ 100) (hl : r.length = xs.length) (hx : Sm xs) : t__law_value (r, xs, ()) = some (dot r xs, r, xs, ()) := by
 have hz : szC (rng 0 (r.length : Int)).length = true := szc (by rw [rng_map]; simp; omega)
 unfold t__law_value T__law_value
 simp only [bind_some, map_some, ift (rok (z := (r.length : Int)) (by omega) (by omega)), ift hz]
 rw [lc_rng (f := fun k => r.getD k 0 * xs.getD k 0) (fun _ _ => rfl) (fun k hk => ?_)]
 ·simp only [bind_some, map_some, zip_rng2 hl]
  rfl
 ·have := hx _ (getD_mem (xs := xs) (k := k) (by omega))
  rw [atI_getD (xs := r) (d := 0) hk, atI_getD (xs := xs) (d := 0) (by omega)]
  simp only [bind_some, ift (mulc (x := r.getD k 0) (y := xs.getD k 0) (by omega)), map_some]
theorem keeps_t {n : Int} {G : Nat} (hn : Cn n G) {xs : List Int} (hx : Sm xs) : t_keeps_rules (n, xs, ()) = some (((RR n.toNat).map fun r => decide (0 ≤ dot r xs)).all id, n, xs, ()) := by
 have hR := RL_len hn
 have hG := hn.le
 unfold t_keeps_rules T_keeps_rules
 simp only [rrow_t hn, bind_some, map_some, ift (szc (n := (RR n.toNat).length) (by omega))]
 rw [lc_map (f := fun r => decide (0 ≤ dot r xs)) (fun _ _ => rfl) (fun r hr => ?_)]
 ·rfl
 ·have h1 := (hR.2.2.2 r hr).1
  simp only [val_t (r := r) (xs := xs) (by omega) hx, bind_some, map_some]
theorem seq_E {S ρ : Type} {f g : S → Option (TR S ρ)} {s : S} {P : S → Prop} (Q : Option (TR S ρ) → Prop) (h : ∃ s', f s = some (.nx s') ∧ P s') (k : ∀ s', P s' → Q (g s')) : Q (TT.tSeq f g s) := by
 obtain ⟨s', e, p⟩ := h
 have : TT.tSeq f g s = g s' := by simp only [TT.tSeq, e, bind_some]
 rw [this]; exact k s' p
theorem lc_step {S S' α β ρ : Type} {ft : α → S → Option (Bool × S)} {fe : α → S → Option (β × S)} {xs : List α} {s : S} {h : List β × S → S'} {P : S' → Prop} (I : S → Prop) (Q : β → Prop) (h0 : I s) (ht : ∀ s x, x ∈ xs → I s → ft x s = some (true, s)) (he : ∀ s x, x ∈ xs → I s → ∃ y s', fe x s = some (y, s') ∧ I s' ∧ Q y)
  (hP : ∀ ys s', I s' → ys.length = xs.length → (∀ y ∈ ys, Q y) → P (h (ys, s'))) : ∃ t, Option.map (fun p => (TR.nx (h p) : TR S' ρ)) (TT.tLc ft fe xs s) = some (TR.nx t) ∧ P t := by
 obtain ⟨ys, s', e, hI, hl, hq⟩ := lc_inv (I := I) (Q := Q) ht he h0
 exact ⟨_, by rw [e]; rfl, hP ys s' hI hl hq⟩
theorem at_mod {xs : List Int} {m : Int} {N : Nat} (hN : 0 < N) (hl : xs.length = N) : ∃ y, atI xs (m % (N : Int)) = some y ∧ y ∈ xs := by
 obtain ⟨j, hj, hjl⟩ : ∃ j : Nat, m % (N : Int) = (j : Int) ∧ j < N := ⟨(m % N).toNat, by have := Int.emod_nonneg m (show (N : Int) ≠ 0 by omega); omega, by
  have := Int.emod_nonneg m (show (N : Int) ≠ 0 by omega)
  have := Int.emod_lt_of_pos m (show (0 : Int) < N by omega)
  omega⟩
 rw [hj]
 exact ⟨xs[j]'(by omega), at_nat (by omega), List.getElem_mem _⟩
theorem mod_j {m : Int} {N : Nat} (hN : 0 < N) : ∃ j : Nat, m % (N : Int) = (j : Int) ∧ j < N := by
 have h1 := Int.emod_nonneg m (show (N : Int) ≠ 0 by omega)
 have h2 := Int.emod_lt_of_pos m (show (0 : Int) < N by omega)
 exact ⟨(m % N).toNat, by omega, by omega⟩
theorem mem_set {xs : List Int} {j : Nat} {v x : Int} (h : x ∈ xs.set j v) : x = v ∨ x ∈ xs := by
 rcases List.mem_or_eq_of_mem_set h with h | h
 ·exact .inr h
 ·exact .inl h
theorem Cn.shl' {n : Int} {G : Nat} (h : Cn n G) : (if decide (0 ≤ n ∧ n ≤ 1000000 ∧ Int.natAbs 1 < 2 ^ 64) = true then some ((1 : Int) * 2 ^ n.toNat) else none) = some ((G : Int) + 1) := by
 rw [h.shl.1]; exact ift h.shl.2
theorem neg_keeps {ws : List Int} : (ws.map fun w => decide (0 ≤ w)).all id = (ws.filter fun w => decide (w < 0)).isEmpty := by
 induction ws with
 | nil => rfl
 | cons w ws ih =>
  rw [List.map_cons, List.all_cons, ih, List.filter_cons]
  by_cases h : w < 0
  ·have : ¬ 0 ≤ w := by omega
   simp [h, this]
  ·have : 0 ≤ w := by omega
   simp [h, this]
end LW
namespace LW
open PySem L2 DD TT
theorem mix_t (c k : Int) (h0 : 0 ≤ k) (h1 : k ≤ 1000) : ∃ m, (0 ≤ m ∧ m < 2147483648) ∧ t__law_mix (c, k, ()) = some (m, c, k, ()) := by
 have d4 : decide ((0 : Int) < 2147483647) = true := by decide
 have d5 : decide ((0 : Int) < 2147483629) = true := by decide
 have m1 : mulN k k = true := mulc (by omega)
 have m2 : mulN (k * k) 7919 = true := mulc (by omega)
 have m3 : ∀ q, mulN q 48271 = true := fun q => mulc (by omega)
 have m4 : ∀ q : Int, mulN (q % 2147483647) (q % 2147483647) = true := fun q => mulc (by omega)
 have m5 : mulN 69621 k = true := mulc (by omega)
 have z1 : ∀ q : Int, q % 2147483629 < 2147483648 := fun q => Int.lt_trans (Int.emod_lt_of_pos q (by decide)) (by decide)
 have z0 : ∀ q : Int, 0 ≤ q % 2147483629 := fun q => Int.emod_nonneg q (by decide)
 unfold t__law_mix T__law_mix
 simp only [TT.tSeq, bind_some, map_some, ift d4, ift m1, ift m2, ift (m3 _), ift (m4 _), ift m5, ift d5]
 exact ⟨_, ⟨z0 _, z1 _⟩, rfl⟩
theorem draws_t {r : List Int} (hr : r.length ≤ 63) {a b : Int} (ha : 0 ≤ a ∧ a ≤ 100) (hb : 0 ≤ b ∧ b ≤ 800) : ∃ ms, Bd ms ∧ t__law_draws (r, a, b, ()) = some (ms, r, a, b, ()) := by
 have h1 : szC [a].length = true := szc (by simp)
 have hc := cut_len (xs := r) (lo := none) (hi := some 63)
 unfold t__law_draws T__law_draws
 simp only [TT.tSeq, bind_some, map_some, ift h1]
 generalize cutG r none (some 63) = c at hc ⊢
 have h2 : szC (c.length + [a].length) = true := szc (by simp; omega)
 have h0 : szC ([] : List Int).length = true := szc (by simp)
 have hcl : (c ++ [a]).length = c.length + 1 := by simp
 simp only [TT.tSeq, bind_some, map_some, ift h1, ift h2, ift h0]
 generalize c ++ [a] = cs at hcl ⊢
 have f2 : ∀ x, fdvC x 100000 = true := fun x => fdvc (by decide +kernel)
 have f3 : ∀ x, fdvC x 2147483587 = true := fun x => fdvc (by decide +kernel)
 have z1 : ∀ q : Int, q % 2147483587 < 2147483648 := fun q => Int.lt_trans (Int.emod_lt_of_pos q (by decide)) (by decide)
 have z0 : ∀ q : Int, 0 ≤ q % 2147483587 := fun q => Int.emod_nonneg q (by decide)
 have d3 : decide ((0 : Int) < 2147483587) = true := by decide
 have dp : decide ((0 : Int) ≤ 18 ∧ (18 : Int) ≤ 1000000 ∧ Int.natAbs 10 < 2 ^ 64) = true := by decide
 simp only [ift (szc (n := cs.length) (by omega)), ift (f2 _), map_some]
 rw [lc_map (f := fun x => x / 100000) (fun _ _ => rfl) (fun _ _ => rfl)]
 simp only [bind_some, map_some, ift (rok (z := a + b) (by omega) (by omega)), Option.bind_assoc]
 refine loop_bindE (S := S__law_draws) (P := fun s => s.x_law_script = r ∧ s.x_law_turn = a ∧ s.x_law_many = b ∧ Bd s.x_law_found) (fun o => ∃ ms, Bd ms ∧ o = some (ms, r, a, b, ())) ?_ fun s' h => ?_
 ·refine loop_ixP (S := S__law_draws) (fun k s => s.x_law_script = r ∧ s.x_law_turn = a ∧ s.x_law_many = b ∧ s.x_law_cells = cs ∧ s.x_law_lefts.length = cs.length ∧ Bd s.x_law_found ∧ s.x_law_found.length = k) ⟨rfl, rfl, rfl, rfl, List.length_map _, Bd.nil, rfl⟩ ?_ (fun s' h => ⟨h.1, h.2.1, h.2.2.1, h.2.2.2.2.2.1⟩)
  rintro k ⟨_, _, _, _, lf, fs, k0, at0, nm0⟩ x hx ⟨e1, e2, e3, e4, hll, hbd, hlen⟩
  obtain ⟨hx, hk⟩ := rng_get hx
  dsimp only at hbd hlen hll e1 e2 e3 e4
  cases e1.symm; cases e2.symm; cases e3.symm; cases e4.symm
  obtain ⟨j, hj, hjl⟩ := mod_nat (k := x) (n := cs.length) (by omega) (by omega)
  have hjf : j < lf.length := by omega
  have d0 : decide ((0 : Int) < (cs.length : Int)) = true := by simp; omega
  obtain ⟨m, hm, em⟩ := mix_t cs[j] x (by omega) (by omega)
  have m1 : mulN m m = true := mulc (by omega)
  have m2 : mulN 7 x = true := mulc (by omega)
  simp only [TT.tSeq, bind_some, map_some, ift d0, hj, at_nat hjl, at_nat hjf, em, ift m1, ift m2, ift d3, ift dp]
  generalize hA : decide ((10 : Int) ^ Int.toNat 18 ≤ cs[j]) = A
  generalize hB : decide (0 < lf[j]) = B
  have hl : ltC fs.length = true := ltc (n := fs.length) (by omega)
  cases A
  ·simp only [Bool.false_eq_true, if_false, bind_some, map_some, ift hl]
   refine ⟨_, rfl, ?_⟩
   exact ⟨rfl, rfl, rfl, rfl, hll, hbd.snoc (z0 _) (z1 _), by simp; omega⟩
  ·simp only [if_true, bind_some, map_some, hB]
   cases B
   ·simp only [Bool.false_eq_true, if_false, bind_some, map_some, ift hl]
    refine ⟨_, rfl, ?_⟩
    exact ⟨rfl, rfl, rfl, rfl, hll, hbd.snoc (z0 _) (z1 _), by simp; omega⟩
   ·simp only [if_true, bind_some, map_some, at_nat hjf, ift d3, ift (f3 _), ixn_nat hjf, ift hl]
    refine ⟨_, rfl, ?_⟩
    exact ⟨rfl, rfl, rfl, rfl, by simp [hll], hbd.snoc (z0 _) (z1 _), by simp; omega⟩
 ·refine ⟨_, fun m hm => h.2.2.2 m ?_, by simp only [bind_some, h.1, h.2.1, h.2.2.1]; rfl⟩
  unfold cutG at hm
  exact List.mem_of_mem_drop (List.mem_of_mem_take hm)
noncomputable def ckB (x : Int) : Bool := match t__law_bits (x, ()) with
 | some (b, y, _) => decide (0 ≤ b ∧ b ≤ 4) && y == x && decide (x = 0 ∨ 1 ≤ b)
 | none => false
theorem ckB_all : (List.range 16).all (fun k => ckB (k : Int)) = true := by decide +kernel
theorem bits_t {x : Int} (h0 : 0 ≤ x) (h1 : x ≤ 15) : ∃ b, (0 ≤ b ∧ b ≤ 4) ∧ (x = 0 ∨ 1 ≤ b) ∧ t__law_bits (x, ()) = some (b, x, ()) := by
 have hc := List.all_eq_true.mp ckB_all x.toNat (List.mem_range.mpr (by omega))
 have e : ((x.toNat : Nat) : Int) = x := by omega
 rw [e] at hc
 unfold ckB at hc
 split at hc
 ·rename_i b y u e
  simp only [Bool.and_eq_true, decide_eq_true_eq, beq_iff_eq] at hc
  obtain ⟨⟨hb, rfl⟩, h2⟩ := hc
  exact ⟨b, hb, h2, e⟩
 ·cases hc
theorem and_small : ∀ a : Fin 16, ∀ b : Fin 16, 0 ≤ Builtin.bitAnd (a.val : Int) (b.val : Int) ∧ Builtin.bitAnd (a.val : Int) (b.val : Int) ≤ 15 := by decide +kernel
theorem and_b {a b : Int} (ha : 0 ≤ a ∧ a ≤ 15) (hb : 0 ≤ b ∧ b ≤ 15) : 0 ≤ Builtin.bitAnd a b ∧ Builtin.bitAnd a b ≤ 15 := by
 have := and_small ⟨a.toNat, by omega⟩ ⟨b.toNat, by omega⟩
 have e1 : ((a.toNat : Nat) : Int) = a := by omega
 have e2 : ((b.toNat : Nat) : Int) = b := by omega
 simpa only [e1, e2] using this
end LW
namespace LW
open PySem L2 DD TT
theorem mapbind {α β γ : Type} {o : Option α} {f : α → β} {g : β → Option γ} : (o.map f).bind g = o.bind fun a => g (f a) := by cases o <;> rfl
theorem mapbind' {α β : Type} {o : Option α} {f : α → β} : o.map f = o.bind fun a => some (f a) := by cases o <;> rfl
theorem lc_E {S α β γ : Type} {ft : α → S → Option (Bool × S)} {fe : α → S → Option (β × S)} {xs : List α} {s : S} {k : List β × S → Option γ} (Q : Option γ → Prop) (I : S → Prop) (R : β → Prop) (h0 : I s) (ht : ∀ s x, x ∈ xs → I s → ft x s = some (true, s)) (he : ∀ s x, x ∈ xs → I s → ∃ y s', fe x s = some (y, s') ∧ I s' ∧ R y)
  (hk : ∀ ys s', I s' → ys.length = xs.length → (∀ y ∈ ys, R y) → Q (k (ys, s'))) : Q ((TT.tLc ft fe xs s).bind k) := by
 obtain ⟨ys, s', e, hI, hl, hq⟩ := lc_inv (I := I) (Q := R) ht he h0
 rw [e]; exact hk ys s' hI hl hq
theorem rng0_mem {G : Nat} {x : Int} (h : x ∈ rng 0 (G : Int)) : 0 ≤ x ∧ x < G := by
 rw [rng_map] at h
 obtain ⟨k, hk, rfl⟩ := List.mem_map.mp h
 have := List.mem_range.mp hk
 omega
theorem table_t {n : Int} {G : Nat} (hn : Cn n G) {ms : List Int} (hb : Bd ms) : ∃ xs ms', Bd ms' ∧ xs.length = G ∧ (∀ x ∈ xs, 0 ≤ x ∧ x ≤ 100000000000) ∧ t__law_table (n, ms, ()) = some (xs, n, ms', ()) := by
 have hG := hn.le
 have hs : (G : Int) + 1 - 1 = G := by omega
 have hrG : rokC (G : Int) = true := rok (by omega) (by omega)
 have hz0 : szC (rng 0 (G : Int)).length = true := szc (by rw [rng_map]; simp; omega)
 have f16 : ∀ x, fdvC x 16 = true := fun x => fdvc (by decide +kernel)
 have f48 : ∀ x, fdvC x 48 = true := fun x => fdvc (by decide +kernel)
 have f240 : ∀ x, fdvC x 240 = true := fun x => fdvc (by decide +kernel)
 have f3 : ∀ x, fdvC x 3 = true := fun x => fdvc (by decide +kernel)
 have d3 : decide ((0 : Int) < 3) = true := by decide
 have d4 : decide ((0 : Int) < 4) = true := by decide
 have d5 : decide ((0 : Int) < 5) = true := by decide
 have d6 : decide ((0 : Int) < 6) = true := by decide
 have dG : decide ((0 : Int) < (G : Int) + 1) = true := decide_eq_true (by omega)
 have r15 : rokC 15 = true := by decide
 have z15 : szC (rng 0 15).length = true := szc (by decide)
 unfold t__law_table T__law_table
 refine seq_E (fun o => ∃ (xs ms' : List Int), Bd ms' ∧ xs.length = G ∧ (∀ x ∈ xs, 0 ≤ x ∧ x ≤ 100000000000) ∧ o.bind _ = some (xs, n, ms', ())) (P := fun s : S__law_table => s.x_law_n = n ∧ s.x_law_draws_here = ms ∧ s.x_law_table_here.length = G ∧ ∀ x ∈ s.x_law_table_here, 0 ≤ x ∧ x ≤ 0) ?_ fun s1 h1 => ?_
 ·simp only [hn.shl', hs, bind_some, map_some, ift hrG, ift hz0]
  refine lc_step (fun s : S__law_table => s.x_law_n = n ∧ s.x_law_draws_here = ms) (fun x => 0 ≤ x ∧ x ≤ 0) ⟨rfl, rfl⟩ (fun _ _ _ _ => rfl) (fun s x hx hI => ⟨_, _, rfl, hI, by omega⟩) (fun ys s' hI hl hq => ⟨hI.1, hI.2, by rw [hl, rng_map]; simp, hq⟩)
 refine seq_E (fun o => ∃ (xs ms' : List Int), Bd ms' ∧ xs.length = G ∧ (∀ x ∈ xs, 0 ≤ x ∧ x ≤ 100000000000) ∧ o.bind _ = some (xs, n, ms', ())) (P := fun s : S__law_table => s.x_law_n = n ∧ Bd s.x_law_draws_here ∧ s.x_law_table_here.length = G ∧ ∀ x ∈ s.x_law_table_here, 0 ≤ x ∧ x ≤ 20000000000) ?_ fun s2 h2 => ?_
 ·obtain ⟨m, ms1, hb1, hm, e1⟩ := pop_t (ms := s1.x_law_draws_here) (by rw [h1.2.1]; exact hb)
  have hm5 := Int.emod_nonneg m (show (5 : Int) ≠ 0 by decide)
  have hm5' := Int.emod_lt_of_pos m (show (0 : Int) < 5 by decide)
  simp only [e1, bind_some, map_some, ift d5, ift (rok (z := m % 5) (by omega) (by omega))]
  refine loop_ixP (S := S__law_table) (fun k s => s.x_law_n = n ∧ Bd s.x_law_draws_here ∧ s.x_law_table_here.length = G ∧ ∀ x ∈ s.x_law_table_here, 0 ≤ x ∧ x ≤ 1000000000 * (k : Int)) ⟨h1.1, hb1, h1.2.2.1, fun x hx => by have := h1.2.2.2 x hx; omega⟩ ?_ (fun s' h => ⟨h.1, h.2.1, h.2.2.1, fun x hx => by
   have h3 := h.2.2.2 x hx
   have h4 : ((rng 0 (m % 5)).length : Int) ≤ 5 := by unfold rng; simp; omega
   omega⟩)
  rintro k ⟨_, dr, tb, k0, nm, mk, mo, ti, pr, fo⟩ x hx ⟨e1, hbd, hlen, hall⟩
  dsimp only at e1 hbd hlen hall
  cases e1.symm
  obtain ⟨q, ms2, hb2, hq, e2⟩ := pop_t hbd
  have q16 : 0 ≤ q / 16 % 3 := Int.emod_nonneg _ (by decide)
  have q16' : q / 16 % 3 < 3 := Int.emod_lt_of_pos _ (by decide)
  have qG : 0 ≤ q % ((G : Int) + 1) := Int.emod_nonneg _ (by omega)
  have qG' : q % ((G : Int) + 1) < (G : Int) + 1 := Int.emod_lt_of_pos _ (by omega)
  have q48 : 0 ≤ q / 48 % 5 := Int.emod_nonneg _ (by decide)
  have q48' : q / 48 % 5 < 5 := Int.emod_lt_of_pos _ (by decide)
  have q48d : 0 ≤ q / 48 := Int.ediv_nonneg hq.1 (by decide)
  have q48d' : q / 48 < 50000000 := Int.ediv_lt_of_lt_mul (by decide) (by omega)
  have hsz : ∀ a b c d : Int, szC ([a, b, c, d] : List Int).length = true := fun _ _ _ _ => szc (by simp)
  obtain ⟨y, hy, hmem⟩ := at_mod (xs := ([1, 2, 1 + q / 48 % 5, 1 + q / 48] : List Int)) (m := q / 240) (N := 4) (by decide) rfl
  have hy' : atI ([1, 2, 1 + q / 48 % 5, 1 + q / 48] : List Int) (q / 240 % 4) = some y := hy
  have hyb : 0 < y ∧ y ≤ 50000000 := by
   simp only [List.mem_cons, List.not_mem_nil, or_false] at hmem
   rcases hmem with rfl | rfl | rfl | rfl <;> omega
  simp only [TT.tSeq, e2, bind_some, map_some, hn.shl', ift dG, ift (f16 _), ift d3, ift (f48 _), ift d5, ift (hsz _ _ _ _), ift (f240 _), ift d4, hy', hlen, ift hrG, ift hz0]
  refine lc_step (fun s : S__law_table => s.x_law_n = n ∧ s.x_law_draws_here = ms2 ∧ s.x_law_table_here = tb ∧ s.x_law_mask = q % ((G : Int) + 1) ∧ s.x_law_most = 1 + q / 16 % 3 ∧ s.x_law_times = y) (fun x => 0 ≤ x ∧ x ≤ 1000000000 * ((k + 1 : Nat) : Int)) ⟨rfl, rfl, rfl, rfl, rfl, rfl⟩ (fun _ _ _ _ => rfl) ?_ (fun ys s' hI hl hq => ⟨hI.1, by rw [hI.2.1]; exact hb2, by rw [hl, rng_map]; simp, hq⟩)
  rintro s x hx ⟨i1, i2, i3, i4, i5, i6⟩
  have hx' := rng0_mem hx
  have ex : x = ((x.toNat : Nat) : Int) := by omega
  have hxl : x.toNat < tb.length := by omega
  obtain ⟨hb0, hb1⟩ := and_b (a := q % ((G : Int) + 1)) (b := x + 1) ⟨qG, by omega⟩ ⟨by omega, by omega⟩
  obtain ⟨b, hbb, _, e3⟩ := bits_t hb0 hb1
  have hat : atI tb x = some tb[x.toNat] := by
   have h := at_nat (xs := tb) (j := x.toNat) hxl
   rwa [← ex] at h
  have hm0 : 0 ≤ (if b < 1 + q / 16 % 3 then b else 1 + q / 16 % 3) ∧ (if b < 1 + q / 16 % 3 then b else 1 + q / 16 % 3) ≤ 3 := by split <;> omega
  simp only [i3, i4, i5, i6, hat, e3, bind_some, map_some]
  generalize (if b < 1 + q / 16 % 3 then b else 1 + q / 16 % 3) = u at hm0 ⊢
  have hmu : mulN y u = true := mulc (by omega)
  have hp0 : 0 ≤ y * u := Int.mul_nonneg (by omega) (by omega)
  have hp1 : y * u ≤ 50000000 * 3 := Int.mul_le_mul (by omega) (by omega) (by omega) (by omega)
  simp only [ift hmu, bind_some, map_some]
  have := hall _ (List.getElem_mem hxl)
  refine ⟨_, _, rfl, ⟨i1, i2, i3, i4, i5, i6⟩, ?_⟩
  omega
 clear h1
 refine seq_E (fun o => ∃ (xs ms' : List Int), Bd ms' ∧ xs.length = G ∧ (∀ x ∈ xs, 0 ≤ x ∧ x ≤ 100000000000) ∧ o.bind _ = some (xs, n, ms', ())) (P := fun s : S__law_table => s.x_law_n = n ∧ Bd s.x_law_draws_here ∧ s.x_law_table_here.length = G ∧ ∀ x ∈ s.x_law_table_here, 0 ≤ x ∧ x ≤ 20000000000) ?_ fun s3 h3 => ?_
 ·obtain ⟨m, ms1, hb1, hm, e1⟩ := pop_t h2.2.1
  simp only [e1, bind_some, map_some]
  exact ⟨_, rfl, h2.1, hb1, h2.2.2.1, h2.2.2.2⟩
 clear h2
 refine seq_E (fun o => ∃ (xs ms' : List Int), Bd ms' ∧ xs.length = G ∧ (∀ x ∈ xs, 0 ≤ x ∧ x ≤ 100000000000) ∧ o.bind _ = some (xs, n, ms', ())) (P := fun s : S__law_table => s.x_law_n = n ∧ Bd s.x_law_draws_here ∧ s.x_law_table_here.length = G ∧ ∀ x ∈ s.x_law_table_here, 0 ≤ x ∧ x ≤ 20000001000) ?_ fun s4 h4 => ?_
 ·have same : ∃ s', (some (TR.nx s3) : Option (TR S__law_table (List Int))) = some (.nx s') ∧ s'.x_law_n = n ∧ Bd s'.x_law_draws_here ∧ s'.x_law_table_here.length = G ∧ ∀ x ∈ s'.x_law_table_here, 0 ≤ x ∧ x ≤ 20000001000 :=
   ⟨s3, rfl, h3.1, h3.2.1, h3.2.2.1, fun x hx => by have := h3.2.2.2 x hx; omega⟩
  simp only [ift okI, h3.1, bind_some, map_some]
  cases h4 : (n == 4)
  ·simp only [Bool.false_eq_true, if_false, bind_some]
   exact same
  ·simp only [if_true, bind_some, map_some, ift d3]
   cases h5 : (s3.x_law_number % 3 == 0)
   ·simp only [Bool.false_eq_true, if_false]
    exact same
   ·have hn4 : n = 4 := eq_of_beq h4
    have hG15 : G = 15 := by rcases hn with ⟨rfl, rfl⟩ | ⟨rfl, rfl⟩ | ⟨rfl, rfl⟩ | ⟨rfl, rfl⟩ <;> first | rfl | (exact absurd hn4 (by decide))
    obtain ⟨y, hy, hmem⟩ := at_mod (xs := ([3, 5, 6, 9, 10, 12] : List Int)) (m := s3.x_law_number / 3) (N := 6) (by decide) rfl
    have hy' : atI ([3, 5, 6, 9, 10, 12] : List Int) (s3.x_law_number / 3 % 6) = some y := hy
    have hsz : szC ([3, 5, 6, 9, 10, 12] : List Int).length = true := szc (by simp)
    have hsz4 : szC ([2, 3, 4, 4] : List Int).length = true := szc (by simp)
    simp only [if_true, bind_some, map_some, ift hsz, ift (f3 _), ift d6, hy', ift r15, ift z15, TT.tSeq]
    have hr : rng 0 15 = rng 0 ((15 : Nat) : Int) := rfl
    rw [mapbind]
    refine lc_E (S := S__law_table) (fun o => ∃ s' : S__law_table, o = some (TR.nx s') ∧ s'.x_law_n = n ∧ Bd s'.x_law_draws_here ∧ s'.x_law_table_here.length = G ∧ ∀ x ∈ s'.x_law_table_here, 0 ≤ x ∧ x ≤ 20000001000) (fun s => s.x_law_n = n ∧ Bd s.x_law_draws_here ∧ s.x_law_table_here = s3.x_law_table_here) (fun z : Int => 0 ≤ z ∧ z ≤ 100) ⟨h3.1, h3.2.1, rfl⟩ (fun _ _ _ _ => rfl) (fun s x hx hI => ?_) (fun ys s' hI hl hq => ?_)
    ·have hx' : 0 ≤ x ∧ x < 15 := rng0_mem (G := 15) hx
     obtain ⟨b, hbb, hb1, e3⟩ := bits_t (x := x + 1) (by omega) (by omega)
     have hb2 : 1 ≤ b := by omega
     obtain ⟨j, hj⟩ : ∃ j : Nat, b - 1 = (j : Int) := ⟨(b - 1).toNat, by omega⟩
     have hjl : j < ([2, 3, 4, 4] : List Int).length := by simp; omega
     have hj4 : 0 ≤ ([2, 3, 4, 4] : List Int)[j] ∧ ([2, 3, 4, 4] : List Int)[j] ≤ 4 := by
      have hm := List.getElem_mem hjl
      generalize ([2, 3, 4, 4] : List Int)[j] = v at hm ⊢
      simp only [List.mem_cons, List.not_mem_nil, or_false] at hm
      rcases hm with rfl | rfl | rfl | rfl <;> decide
     simp only [ift hsz4, e3, bind_some, map_some, hj, at_nat hjl, ift okI]
     refine ⟨_, _, rfl, hI, ?_⟩
     split <;> omega
    ·dsimp only
     have hl15 : ys.length = 15 := by rw [hl]; rfl
     rw [mapbind']
     refine lc_E (S := S__law_table) (fun o => ∃ s' : S__law_table, o = some (TR.nx s') ∧ s'.x_law_n = n ∧ Bd s'.x_law_draws_here ∧ s'.x_law_table_here.length = G ∧ ∀ x ∈ s'.x_law_table_here, 0 ≤ x ∧ x ≤ 20000001000) (fun s => s.x_law_n = n ∧ Bd s.x_law_draws_here ∧ s.x_law_table_here = s3.x_law_table_here ∧ s.x_law_four = ys) (fun z : Int => 0 ≤ z ∧ z ≤ 20000001000) ⟨hI.1, hI.2.1, hI.2.2, rfl⟩ (fun _ _ _ _ => rfl) (fun s x hx hI => ?_) (fun zs s' hI hl hq => ?_)
     ·have hx' : 0 ≤ x ∧ x < 15 := rng0_mem (G := 15) hx
      obtain ⟨j, rfl⟩ : ∃ j : Nat, x = (j : Int) := ⟨x.toNat, by omega⟩
      have j1 : j < s3.x_law_table_here.length := by omega
      have j2 : j < ys.length := by omega
      have v1 := h3.2.2.2 _ (List.getElem_mem j1)
      have v2 := hq _ (List.getElem_mem j2)
      simp only [hI.2.2.1, hI.2.2.2, at_nat j1, at_nat j2, bind_some, map_some]
      exact ⟨_, _, rfl, hI, by omega⟩
     ·exact ⟨_, rfl, hI.1, hI.2.1, by rw [hl]; exact hG15.symm, hq⟩
 ·simp only [bind_some, map_some]
  exact ⟨_, _, h4.2.1, h4.2.2.1, fun x hx => by have := h4.2.2.2 x hx; omega, by rw [h4.1]⟩
end LW
namespace LW
open PySem L2 DD TT
noncomputable def rowOf (n : Int) (x : PyData) : List Int := match t_rule_row (n, x, ()) with | some (r, _) => r | none => []
noncomputable def ckRow (n : Int) : Bool := (RL n.toNat).all fun x => match t_rule_row (n, x, ()) with | some (_, m, y, _) => m == n && beqP y x | none => false
theorem ckRow_all : ckRow 1 = true ∧ ckRow 2 = true ∧ ckRow 3 = true ∧ ckRow 4 = true := by decide +kernel
theorem rowOf_all : (RL 1).map (rowOf 1) = RR 1 ∧ (RL 2).map (rowOf 2) = RR 2 ∧ (RL 3).map (rowOf 3) = RR 3 ∧ (RL 4).map (rowOf 4) = RR 4 := by decide +kernel
theorem rrow_x {n : Int} {G : Nat} (h : Cn n G) : ∀ x ∈ RL n.toNat, t_rule_row (n, x, ()) = some (rowOf n x, n, x, ()) := by
 have hc : ckRow n = true := by
  obtain ⟨a, b, c, d⟩ := ckRow_all
  rcases h with ⟨rfl, rfl⟩ | ⟨rfl, rfl⟩ | ⟨rfl, rfl⟩ | ⟨rfl, rfl⟩ <;> assumption
 intro x hx
 have := List.all_eq_true.mp hc x hx
 unfold rowOf
 split at this
 ·rename_i r m y u e
  simp only [Bool.and_eq_true, beq_iff_eq] at this
  obtain ⟨rfl, hy⟩ := this
  rw [e, beqP_eq hy]
 ·cases this
theorem rows_x {n : Int} {G : Nat} (h : Cn n G) : (RL n.toNat).map (rowOf n) = RR n.toNat := by
 obtain ⟨a, b, c, d⟩ := rowOf_all
 rcases h with ⟨rfl, rfl⟩ | ⟨rfl, rfl⟩ | ⟨rfl, rfl⟩ | ⟨rfl, rfl⟩ <;> assumption
theorem named1 : okR (t__law_named (1, ())) 1 = true := by decide +kernel
theorem named2 : okR (t__law_named (2, ())) 2 = true := by decide +kernel
theorem named3 : okR (t__law_named (3, ())) 3 = true := by decide +kernel
theorem named4 : okR (t__law_named (4, ())) 4 = true := by decide +kernel
theorem named_t {n : Int} {G : Nat} (h : Cn n G) : t__law_named (n, ()) = some (RL n.toNat, n, ()) := by
 rcases h with ⟨rfl, rfl⟩ | ⟨rfl, rfl⟩ | ⟨rfl, rfl⟩ | ⟨rfl, rfl⟩
 ·exact okR_eq named1
 ·exact okR_eq named2
 ·exact okR_eq named3
 ·exact okR_eq named4
noncomputable def PT (n : Nat) : PyData := .list [Py.pe (rL rQ) (RL n), Py.pe (rL (rL rI)) (RR n)]
noncomputable def okT (p : PyData) : Bool := okX p && Nat.ble p.weight 1048576 && Nat.ble p.depth 40
theorem okT_all : (okT (PT 1) && smP (PT 1) (PT 1)) = true ∧ (okT (PT 2) && smP (PT 2) (PT 2)) = true ∧ (okT (PT 3) && smP (PT 3) (PT 3)) = true ∧ (okT (PT 4) && smP (PT 4) (PT 4)) = true := by decide +kernel
theorem txt_t {n : Int} {G : Nat} (h : Cn n G) : txt (.list [Py.pe (rL rQ) (RL n.toNat), Py.pe (rL (rL rI)) (RR n.toNat)]) = some (PT n.toNat) ∧ smP (PT n.toNat) (PT n.toNat) = true := by
 have hc : (okT (PT n.toNat) && smP (PT n.toNat) (PT n.toNat)) = true := by
  obtain ⟨a, b, c, d⟩ := okT_all
  rcases h with ⟨rfl, rfl⟩ | ⟨rfl, rfl⟩ | ⟨rfl, rfl⟩ | ⟨rfl, rfl⟩ <;> assumption
 rw [Bool.and_eq_true] at hc
 exact ⟨if_pos hc.1, hc.2⟩
theorem eqv_all : eqL (fun p q => PyData.eqv p q) (RL 1) (RL 1) = true ∧ eqL (fun p q => PyData.eqv p q) (RL 2) (RL 2) = true ∧ eqL (fun p q => PyData.eqv p q) (RL 3) (RL 3) = true ∧ eqL (fun p q => PyData.eqv p q) (RL 4) (RL 4) = true := by decide +kernel
theorem eqv_t {n : Int} {G : Nat} (h : Cn n G) : eqL (fun p q => PyData.eqv p q) (RL n.toNat) (RL n.toNat) = true := by
 obtain ⟨a, b, c, d⟩ := eqv_all
 rcases h with ⟨rfl, rfl⟩ | ⟨rfl, rfl⟩ | ⟨rfl, rfl⟩ | ⟨rfl, rfl⟩ <;> assumption
theorem okQ_t {n : Int} {G : Nat} (h : Cn n G) : (Py.ok (rL rQ) (RL n.toNat) && Py.ok (rL rQ) (RL n.toNat) && decide (min (Py.k (rL rQ)) (Py.k (rL rQ)) ≤ 50)) = true := by
 have h1 : Py.ok (rL rQ) (RL n.toNat) = true := List.all_eq_true.mpr (RL_ok h)
 rw [h1]; rfl
theorem last_in {n : Int} {G : Nat} (h : Cn n G) : ∃ rs ps, RL n.toNat = .tuple [.str "last", .int 0] :: ps ∧ RR n.toNat = rowOf n (.tuple [.str "last", .int 0]) :: rs := by
 have e := rows_x h
 obtain ⟨ps, e2⟩ : ∃ ps, RL n.toNat = .tuple [.str "last", .int 0] :: ps := by rcases h with ⟨rfl, rfl⟩ | ⟨rfl, rfl⟩ | ⟨rfl, rfl⟩ | ⟨rfl, rfl⟩ <;> exact ⟨_, rfl⟩
 rw [e2, List.map_cons] at e
 exact ⟨_, ps, e2, e.symm⟩
theorem okMMLL {a b : List (List Int)} : (Py.ok (rL (TT.rM TT.rI)) a && Py.ok (rL (TT.rM TT.rI)) b && decide (min (Py.k (rL (TT.rM TT.rI))) (Py.k (rL (TT.rM TT.rI))) ≤ 50)) = true := by
 have h : ∀ a : List (List Int), Py.ok (rL (TT.rM TT.rI)) a = true := fun a => List.all_eq_true.mpr fun x _ => List.all_eq_true.mpr fun _ _ => rfl
 rw [h a, h b]; rfl
theorem law_t (ns : List Int) (hl : ns.length ≤ 63) : ∃ q, t_law (ns, ()) = some (true, q) := by
 obtain ⟨ms, hb, e0⟩ := draws_t hl (a := 1) (b := 200) (by omega) (by omega)
 have z4 : szC ([1, 2, 3, 4] : List Int).length = true := szc (by simp)
 unfold t_law T_law
 simp only [TT.tSeq, bind_some, map_some, e0, ift z4]
 rw [Option.bind_assoc]
 refine loop_bindE (S := S_law) (P := fun s => True) (fun o => ∃ q, o = some (true, q)) ?_ fun s' _ => ⟨_, rfl⟩
 refine loop_ixP (S := S_law) (fun k s => Bd s.x_law_draws_here) hb ?_ (fun _ _ => trivial)
 rintro k ⟨sc, dr, n0, fo, rw0, tu, tb, nm, at0, kp, tl, du⟩ n hx hbd
 dsimp only at hbd
 obtain ⟨G, hn⟩ : ∃ G, Cn n G := by
  have hm := List.mem_of_getElem? hx
  simp only [List.mem_cons, List.not_mem_nil, or_false] at hm
  rcases hm with rfl | rfl | rfl | rfl
  ·exact ⟨1, .inl ⟨rfl, rfl⟩⟩
  ·exact ⟨3, .inr (.inl ⟨rfl, rfl⟩)⟩
  ·exact ⟨7, .inr (.inr (.inl ⟨rfl, rfl⟩))⟩
  ·exact ⟨15, .inr (.inr (.inr ⟨rfl, rfl⟩))⟩
 have hR := RL_len hn
 have hG := hn.le
 obtain ⟨tx1, tx2⟩ := txt_t hn
 obtain ⟨rs, ps, l1, l2⟩ := last_in hn
 have hlast := rrow_x hn (.tuple [.str "last", .int 0]) (by rw [l1]; simp)
 have hr0 : (rowOf n (.tuple [.str "last", .int 0])).length = G := (hR.2.2.2 _ (by rw [l2]; simp)).1
 have hat0 : atI (RR n.toNat) 0 = some (rowOf n (.tuple [.str "last", .int 0])) := by
  have := at_nat (xs := RR n.toNat) (j := 0) (by omega)
  rw [show ((0 : Nat) : Int) = 0 from rfl] at this
  rw [this]
  simp only [l2, List.getElem_cons_zero]
 have r4 : rokC 4 = true := by decide
 have hse : eqL (fun a b : Int => a == b) (rowOf n (.tuple [.str "last", .int 0])) (rowOf n (.tuple [.str "last", .int 0])) = true := eqL_self (fun a => by simp) _
 have hpe : Py.pe (rT2 TT.rS TT.rI) (Str.ofString "last", 0) = .tuple [.str "last", .int 0] := rfl
 refine seq_E (fun o => ∃ s' : S_law, o = some (TR.nx s') ∧ Bd s'.x_law_draws_here) (P := fun s => s.x_law_n = n ∧ Bd s.x_law_draws_here ∧ s.x_law_found = RL n.toNat) ?_ fun s1 h1 => ?_
 ·simp only [rules_t hn, map_some]
  exact ⟨_, rfl, rfl, hbd, rfl⟩
 refine seq_E (fun o => ∃ s' : S_law, o = some (TR.nx s') ∧ Bd s'.x_law_draws_here) (P := fun s => s.x_law_n = n ∧ Bd s.x_law_draws_here ∧ s.x_law_found = RL n.toNat ∧ s.x_law_rows = RR n.toNat) ?_ fun s2 h2 => ?_
 ·simp only [h1.2.2, ift (szc (n := (RL n.toNat).length) (by omega))]
  rw [lc_map (f := rowOf n) (fun _ _ => rfl) (fun x hx => by rw [h1.1, rrow_x hn x hx]; rfl), rows_x hn, bind_some]
  dsimp only
  rw [if_pos h1.2.2]
  exact ⟨_, rfl, h1.1, h1.2.1, h1.2.2, rfl⟩
 clear h1
 refine seq_E (fun o => ∃ s' : S_law, o = some (TR.nx s') ∧ Bd s'.x_law_draws_here) (P := fun s => s.x_law_n = n ∧ Bd s.x_law_draws_here ∧ s.x_law_rows = RR n.toNat) ?_ fun s3 h3 => ?_
 ·simp only [h2.1, h2.2.2.1, h2.2.2.2, tx1, bind_some, map_some, named_t hn, lrul_t hn, ift tx2, Bool.false_eq_true, if_false]
  exact ⟨_, rfl, h2.1, h2.2.1, h2.2.2.2⟩
 clear h2
 refine seq_E (fun o => ∃ s' : S_law, o = some (TR.nx s') ∧ Bd s'.x_law_draws_here) (P := fun s => s.x_law_n = n ∧ Bd s.x_law_draws_here ∧ s.x_law_rows = RR n.toNat) ?_ fun s4 h4 => ?_
 ·exact ⟨_, rfl, h3.1, h3.2.1, h3.2.2⟩
 clear h3
 refine seq_E (fun o => ∃ s' : S_law, o = some (TR.nx s') ∧ Bd s'.x_law_draws_here) (P := fun s => s.x_law_n = n ∧ Bd s.x_law_draws_here) ?_ fun s5 h5 => ?_
 ·simp only [h4.2.2]
  rw [l2]
  simp only [hr0, ift (ltc (n := G) (by omega)), map_some]
  exact ⟨_, rfl, h4.1, h4.2.1⟩
 clear h4
 refine seq_E (fun o => ∃ s' : S_law, o = some (TR.nx s') ∧ Bd s'.x_law_draws_here) (P := fun s => s.x_law_n = n ∧ Bd s.x_law_draws_here) ?_ fun s6 h6 => ?_
 ·simp only [h5.1, rules_t hn, named_t hn, bind_some, map_some, ift (okQ_t hn), eqv_t hn, Bool.not_true, Bool.false_eq_true, if_false, hpe, hlast, lrul_t hn, hat0, ift okLL, hse]
  exact ⟨_, rfl, h5.1, h5.2⟩
 clear h5 hbd
 simp only [ift r4, bind_some]
 refine loop_ixP (S := S_law) (fun k s => s.x_law_n = n ∧ Bd s.x_law_draws_here) ⟨h6.1, h6.2⟩ ?_ (fun _ h => h.2)
 rintro k ⟨sc, dr, n0, fo, rw0, tu, tb, nm, at0, kp, tl, du⟩ u hxu ⟨q1, hbd⟩
 dsimp only at q1 hbd
 cases q1.symm
 obtain ⟨xs, ms1, hb1, hxl, hxb, e1⟩ := table_t hn hbd
 have d3 : decide ((0 : Int) < 3) = true := by decide
 have f3 : ∀ x, fdvC x 3 = true := fun x => fdvc (by decide +kernel)
 have f48 : ∀ x, fdvC x 48 = true := fun x => fdvc (by decide +kernel)
 have d4 : decide ((0 : Int) < 4) = true := by decide
 have dl : decide ((0 : Int) < (xs.length : Int)) = true := decide_eq_true (by omega)
 have isiB : isiT "bool" "bool" = some true := rfl
 have hval : ∀ ys : List Int, ys.length = G → Sm ys → ∀ r ∈ RR n.toNat, t__law_value (r, ys, ()) = some (dot r ys, r, ys, ()) := fun ys h1 h2 r hr => by
  have := (hR.2.2.2 r hr).1
  exact lval_t (by omega) (by omega) h2
 have hkeep : ∀ ys : List Int, ((RR n.toNat).map fun r => decide (0 ≤ dot r ys)).all id = ((RR n.toNat).filter fun r => decide (dot r ys < 0)).isEmpty := fun ys => by
  have := neg_keeps (ws := (RR n.toNat).map fun r => dot r ys)
  rw [List.map_map] at this
  rw [show ((RR n.toNat).map fun r => decide (0 ≤ dot r ys)).all id = ((RR n.toNat).map ((fun w => decide (0 ≤ w)) ∘ fun r => dot r ys)).all id from rfl, this, List.filter_map, List.isEmpty_map]
  rfl
 have hne : ∀ b : Bool, (!(b == b)) = false := fun b => by cases b <;> rfl
 have hself : ∀ ys : List Int, eqL (fun a b : Int => a == b) ys ys = true := fun ys => eqL_self (fun a => by simp) ys
 have hzR : szC (RR n.toNat).length = true := szc (by omega)
 have hz0 : szC ([] : List (List Int)).length = true := rfl
 refine seq_E (fun o => ∃ s' : S_law, o = some (TR.nx s') ∧ s'.x_law_n = n ∧ Bd s'.x_law_draws_here) (P := fun s => s.x_law_n = n ∧ Bd s.x_law_draws_here ∧ s.x_law_table_here = xs) ?_ fun s1 h1 => ?_
 ·simp only [e1, map_some]
  exact ⟨_, rfl, rfl, hb1, rfl⟩
 refine seq_E (fun o => ∃ s' : S_law, o = some (TR.nx s') ∧ s'.x_law_n = n ∧ Bd s'.x_law_draws_here) (P := fun s => s.x_law_n = n ∧ Bd s.x_law_draws_here ∧ s.x_law_table_here = xs ∧ 0 ≤ s.x_law_number ∧ s.x_law_number < 2147483648) ?_ fun s2 h2 => ?_
 ·obtain ⟨m, ms2, hb2, hm, e2⟩ := pop_t h1.2.1
  simp only [e2, map_some]
  exact ⟨_, rfl, h1.1, hb2, h1.2.2, hm⟩
 clear h1
 refine seq_E (fun o => ∃ s' : S_law, o = some (TR.nx s') ∧ s'.x_law_n = n ∧ Bd s'.x_law_draws_here) (P := fun s => s.x_law_n = n ∧ Bd s.x_law_draws_here ∧ s.x_law_table_here.length = G ∧ Sm s.x_law_table_here) ?_ fun s3 h3 => ?_
 ·obtain ⟨a1, a2, a3, a4, a5⟩ := h2
  have hs0 : Sm xs := fun x hx => by have := hxb x hx; omega
  simp only [ift d3, map_some, bind_some]
  generalize decide (0 < s2.x_law_number % 3) = c
  cases c
  ·simp only [Bool.false_eq_true, if_false]
   exact ⟨_, rfl, a1, a2, by rw [a3]; exact hxl, by rw [a3]; exact hs0⟩
  ·simp only [if_true, ift (f3 _), a3, ift dl, map_some, bind_some]
   obtain ⟨j, hj, hjl⟩ := mod_j (m := s2.x_law_number / 3) (N := xs.length) (by omega)
   obtain ⟨y, hy, hmem⟩ := at_mod (xs := ([1, -1, s2.x_law_number, -3] : List Int)) (m := s2.x_law_number / 48) (N := 4) (by decide) rfl
   have hy' : atI ([1, -1, s2.x_law_number, -3] : List Int) (s2.x_law_number / 48 % 4) = some y := hy
   have hyb : -3 ≤ y ∧ y ≤ 2147483648 := by
    simp only [List.mem_cons, List.not_mem_nil, or_false] at hmem
    rcases hmem with rfl | rfl | rfl | rfl <;> omega
   have hsz : szC ([1, -1, s2.x_law_number, -3] : List Int).length = true := szc (by simp)
   simp only [hj, at_nat hjl, ift hsz, ift (f48 _), ift d4, hy', bind_some, map_some, ixn_nat hjl]
   have hv := hxb _ (List.getElem_mem hjl)
   refine ⟨_, rfl, a1, a2, by simpa using hxl, fun x hx => ?_⟩
   rcases mem_set hx with rfl | hx
   ·omega
   ·exact hs0 x hx
 clear h2
 refine seq_E (fun o => ∃ s' : S_law, o = some (TR.nx s') ∧ s'.x_law_n = n ∧ Bd s'.x_law_draws_here) (P := fun s => s.x_law_n = n ∧ Bd s.x_law_draws_here ∧ s.x_law_table_here.length = G ∧ Sm s.x_law_table_here ∧ s.x_law_kept = s.x_law_table_here) ?_ fun s4 h4 => ?_
 ·exact ⟨_, rfl, h3.1, h3.2.1, h3.2.2.1, h3.2.2.2, rfl⟩
 clear h3
 obtain ⟨b1, b2, b3, b4, b5⟩ := h4
 refine seq_E (fun o => ∃ s' : S_law, o = some (TR.nx s') ∧ s'.x_law_n = n ∧ Bd s'.x_law_draws_here) (P := fun s => s.x_law_n = n ∧ Bd s.x_law_draws_here ∧ s.x_law_table_here = s4.x_law_table_here ∧ s.x_law_kept = s4.x_law_table_here ∧ s.x_law_told = ((RR n.toNat).filter fun r => decide (dot r s4.x_law_table_here < 0)).isEmpty) ?_ fun s5 h5 => ?_
 ·simp only [b1, keeps_t hn b4, map_some]
  exact ⟨_, rfl, rfl, b2, rfl, b5, hkeep _⟩
 refine seq_E (fun o => ∃ s' : S_law, o = some (TR.nx s') ∧ s'.x_law_n = n ∧ Bd s'.x_law_draws_here) (P := fun s => s.x_law_n = n ∧ Bd s.x_law_draws_here ∧ s.x_law_table_here = s4.x_law_table_here ∧ s.x_law_kept = s4.x_law_table_here ∧ s.x_law_told = s.x_law_due) ?_ fun s6 h6 => ?_
 ·obtain ⟨c1, c2, c3, c4, c5⟩ := h5
  simp only [c1, lrul_t hn, map_some, bind_some, ift hzR]
  rw [lc_filter (p := fun r => decide (dot r s4.x_law_table_here < 0)) (f := fun r => r) (fun r hr => ?_) (fun _ _ _ => rfl)]
  ·simp only [List.map_id', bind_some, ift hz0, ift okMMLL, eqL_nil, map_some]
   exact ⟨_, rfl, c1, c2, c3, c4, c5⟩
  ·rw [c3, hval _ b3 b4 r hr]
   simp only [map_some, bind_some, ← c3]
 obtain ⟨c1, c2, c3, c4, c5⟩ := h6
 simp only [isiB, map_some, bind_some, Bool.not_true, Bool.false_eq_true, if_false, ift okB, c5, hne, ift okML, c3, c4, hself]
 exact ⟨_, rfl, c1, c2⟩
theorem holds : ∀ ns : List Int, ns.length ≤ 63 → ∃ d, g_law [.lst false (ns.map D.int)] = some (.bl true, [d]) := holds_of j_law law_t
end LW
open PySem PySem.W PyProof.Rows
set_option maxRecDepth 100000 in
set_option maxHeartbeats 0 in
theorem PySem.Challenge.cw_telltight_k02_rules_in_order_holds : PySem.Challenge.rw_telltight_k02_rules_in_order.Holds := by
 w_on; o_law; k_head; (case hw => w_witness2)
 k_fill
 refine LW.walk (l := PySem.Challenge.rw_telltight_k02_rules_in_order) rfl rfl (fun w h Y => PySem.W.kIn_of Y) LW.holds ?F
 case F =>
  intro w mg fa h KX G hmg
  refine' LW.all_mk KX G hmg ?a0 ?l0 ?c0 ?k0 ?a1 ?l1 ?c1 ?k1 ?a2 ?l2 ?c2 ?k2 ?a3 ?l3 ?c3 ?k3 ?a4 ?l4 ?c4 ?k4 ?a5 ?l5 ?c5 ?k5 ?a6 ?l6 ?c6 ?k6 ?a7 ?l7 ?c7 ?k7 ?a8 ?l8 ?c8 ?k8 ?a9 ?l9 ?c9 ?k9 ?a10 ?l10 ?c10 ?k10 ?a11 ?l11 ?c11 ?k11 ?a12 ?l12 ?c12 ?k12 ?a13 ?l13 ?c13 ?k13 ?a14 ?l14 ?c14 ?k14 ?a15 ?l15 ?c15 ?k15 ?a16 ?l16 ?c16 ?k16 ?a17 ?l17 ?c17 ?k17 ?a18 ?l18 ?c18 ?k18 ?a19 ?l19 ?c19 ?k19 ?z_all ?z_bool ?z_int ?z_isinstance ?z_len ?z_list ?z_min ?z_range ?z_str ?z_sum ?z_zip
  (case a0 => k_is)
  (case l0 => k_is)
  (case c0 => k_is)
  (case k0 => k_is)
  (case a1 => k_is)
  (case l1 => k_is)
  (case c1 => k_is)
  (case k1 => k_is)
  (case a2 => k_is)
  (case l2 => k_is)
  (case c2 => k_is)
  (case k2 => k_is)
  (case a3 => k_is)
  (case l3 => k_is)
  (case c3 => k_is)
  (case k3 => k_is)
  (case a4 => k_is)
  (case l4 => k_is)
  (case c4 => k_is)
  (case k4 => k_is)
  (case a5 => k_is)
  (case l5 => k_is)
  (case c5 => k_is)
  (case k5 => k_is)
  (case a6 => k_is)
  (case l6 => k_is)
  (case c6 => k_is)
  (case k6 => k_is)
  (case a7 => k_is)
  (case l7 => k_is)
  (case c7 => k_is)
  (case k7 => k_is)
  (case a8 => k_is)
  (case l8 => k_is)
  (case c8 => k_is)
  (case k8 => k_is)
  (case a9 => k_is)
  (case l9 => k_is)
  (case c9 => k_is)
  (case k9 => k_is)
  (case a10 => k_is)
  (case l10 => k_is)
  (case c10 => k_is)
  (case k10 => k_is)
  (case a11 => k_is)
  (case l11 => k_is)
  (case c11 => k_is)
  (case k11 => k_is)
  (case a12 => k_is)
  (case l12 => k_is)
  (case c12 => k_is)
  (case k12 => k_is)
  (case a13 => k_is)
  (case l13 => k_is)
  (case c13 => k_is)
  (case k13 => k_is)
  (case a14 => k_is)
  (case l14 => k_is)
  (case c14 => k_is)
  (case k14 => k_is)
  (case a15 => k_is)
  (case l15 => k_is)
  (case c15 => k_is)
  (case k15 => k_is)
  (case a16 => k_is)
  (case l16 => k_is)
  (case c16 => k_is)
  (case k16 => k_is)
  (case a17 => k_is)
  (case l17 => k_is)
  (case c17 => k_is)
  (case k17 => k_is)
  (case a18 => k_is)
  (case l18 => k_is)
  (case c18 => k_is)
  (case k18 => k_is)
  (case a19 => k_is)
  (case l19 => k_is)
  (case c19 => k_is)
  (case k19 => k_is)
  (case z_all => k_is)
  (case z_bool => k_is)
  (case z_int => k_is)
  (case z_isinstance => k_is)
  (case z_len => k_is)
  (case z_list => k_is)
  (case z_min => k_is)
  (case z_range => k_is)
  (case z_str => k_is)
  (case z_sum => k_is)
  (case z_zip => k_is)
#print axioms PySem.Challenge.cw_telltight_k02_rules_in_order_holds
