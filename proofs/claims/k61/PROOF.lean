import PyProof.Rows.All
import Wide.All
import OpenK.AllK
import Wide.FinOn
import Lean
import PyProof.EqAt
import PyProof.EqKinds
import PyProof.TupleCall
import PyProof.FactsAll.list_3
import PyProof.EnumMake
import PyProof.Draws
import PyProof.Rows.CallKwBuiltin
import PyProof.ListRange
import PyProof.TupleIter
import PyProof.Rows.Range3
import PyProof.ZipIter
import PyProof.FactsAll.int_0
import PyProof.FactsAll.int_6
import PyProof.Rows.RuleM_int
import PyProof.ReprNest
import PyProof.ReprLen
import PyProof.StrOps
import KE.KDictOf
import PyProof.AttrMissHeap
import PyProof.MeetsDictList
import PyProof.DictRoadsH
import KE.KSortTup
import KE.KDictList
import PyProof.Rows.SortShell
import PyProof.MeetsSeq3
import PyProof.FactsAll.list_2
import KE.KSortAsk
import PyProof.TupleOfSeq
import PyProof.StrCalls2
import PyProof.StrCalls
import PyProof.Rows.StrJoin2
import KE.KIntText
import PyProof.CallStr
import PyProof.Rows.StrLen
import PyProof.StrBlockH
import PyProof.SliceStr2
import PyProof.StrWalks
import PyProof.StrLoop
import PyProof.Rows.FStr
import PyProof.StrOps2
import KE.KItemsList
import PySem.Challenge.RW_telltight_k61_steps_looked_at
set_option bootstrap.genMatcherCode false
set_option compiler.extract_closed false
open Option (bind_some map_some)
open PySem.W (InstAt callWith_K cellsFrom_some codeIn codeRec_of findIn fnOf hasDictIn hideAll hideAll_get hideAll_none hideAll_size instObj kIn_of keepIn ki_setAt ki_setBack kia_one kitOne kitx_bool kitx_dict kitx_float kitx_int kitx_list kitx_none kitx_own kitx_str kitx_tuple lookIn methodObj mg_none_of mg_of mroIn nsIn of_hideAll plainGet plainOver specialIn takesIn)
theorem oM {p : Prop} (h : p := by first | omega | (refine @id (@Ne Nat _ _) ?_; omega)) : p := h
theorem dC {p : Prop} (h : p := by decide) : p := h
set_option Elab.async false
set_option linter.all false
set_option maxRecDepth 100000
theorem n0 (_ : True := by first | exact .inl rfl | exact .inr rfl | assumption) : True := trivial
theorem cz (_ : True := by decide) : True := trivial
theorem CY (_ : True := by first | exact wB _ dC dC | rfl) : True := trivial
theorem kJ (_ : True := by intro _; rfl) : True := trivial
theorem bj (_ : True := by rfl) : True := trivial
theorem xW (_ : True := by exact trivial) : True := trivial
theorem mv (_ : True := by first | exact Or.inl rfl | exact Or.inr (Or.inl rfl) | exact Or.inr (Or.inr rfl)) : True := trivial
theorem nZ (_ : True := by intro _ _; rfl) : True := trivial
theorem xV (_ : True := by first | exact Or.inl rfl | exact Or.inr rfl) : True := trivial
theorem jC (_ : True := by (first | exact Le.refl | (repeat (first | exact Le.nil | refine Le.som inferInstance ?_ | refine Le.non ?_)))) : True := trivial
theorem nk (_ : True := by intro _; repeat (first | exact Fr.nil | refine Fr.som (fun _ _ h => h) ?_ | refine Fr.non ?_)) : True := trivial
theorem Cv (_ : True := by infer_instance) : True := trivial
theorem A0 (_ : True := by intro _; repeat (first | exact Le.nil | refine Le.som inferInstance ?_ | refine Le.non ?_)) : True := trivial
namespace L2
open PySem PySem.Spec PyProof.Rows
noncomputable abbrev bi := Sum Int Str
noncomputable def lJ : bi -> Value -> Bool
 | .inl k, v => Value.isInt k v
 | .inr x, v => Value.isStrOf x v
noncomputable def Co (w : World) : bi -> Int
 | .inl k => hashInt k
 | .inr x => hashStr w x
theorem dl : ∀ {k : bi} {v : Value}, lJ k v = true -> (∃ i t, k = Sum.inl i /\ v = Value.int i t) \/ (∃ x t, k = Sum.inr x /\ v = Value.str x t)
 | .inl i, v, h => by
  obtain ⟨t, e⟩ := Value.isInt_shape (k := i) (v := v) h;exact .inl ⟨i, t, rfl, e⟩
 | .inr x, v, h => by
  obtain ⟨t, e⟩ := Value.isStrOf_shape (x := x) (v := v) h;exact .inr ⟨x, t, rfl, e⟩
theorem vw (i : Int) (t : Tok) : lJ (.inl i) (.int i t) = true := by simp [lJ, Value.isInt]
theorem vv (x : Str) (t : Tok) : lJ (.inr x) (.str x t) = true := by simp [lJ, Value.isStrOf]
theorem Au (a b : Int) : decide ((Sum.inl a : bi) = Sum.inl b) = (a == b) := by
 by_cases e : a = b
 ·subst e; simp
 ·have h : ¬ (Sum.inl a : bi) = Sum.inl b := fun q => e (Sum.inl.inj q)
  rw [decide_eq_false h];exact (beq_eq_false_iff_ne.mpr e).symm
theorem Ar (a b : Str) : decide ((Sum.inr a : bi) = Sum.inr b) = decide (a = b) := by
 by_cases e : a = b
 ·subst e; simp
 ·have h : ¬ (Sum.inr a : bi) = Sum.inr b := fun q => e (Sum.inr.inj q)
  rw [decide_eq_false h, decide_eq_false e]
theorem At (a : Int) (b : Str) : decide ((Sum.inl a : bi) = Sum.inr b) = false := decide_eq_false (fun q => nomatch q)
theorem As (a : Str) (b : Int) : decide ((Sum.inr a : bi) = Sum.inl b) = false := decide_eq_false (fun q => nomatch q)
noncomputable def bS (prog : Program) (w : World) : PySem.KeyKind prog w bi where
 is := lJ
 hash := Co w
 inj := fun v a b ha hb => by
  rcases dl ha with ⟨i, t, rfl, rfl⟩ | ⟨x, t, rfl, rfl⟩
  ·rcases dl hb with ⟨j, u, rfl, e⟩ | ⟨y, u, rfl, e⟩
   ·injection e with e1 _; rw [e1]
   ·exact nomatch e
  ·rcases dl hb with ⟨j, u, rfl, e⟩ | ⟨y, u, rfl, e⟩
   ·exact nomatch e
   ·injection e with e1 _; rw [e1]
 byValue := fun k v h => by
  rcases dl h with ⟨i, t, rfl, rfl⟩ | ⟨x, t, rfl, rfl⟩ <;> rfl
 pyHash := fun hv h => by
  rcases dl hv with ⟨i, t, rfl, rfl⟩ | ⟨x, t, rfl, rfl⟩
  ·exact wpAny_pyHash_int h
  ·exact wpAny_pyHash_str h
 eqBool := fun hu hv h => by
  rcases dl hu with ⟨i, t, rfl, rfl⟩ | ⟨x, t, rfl, rfl⟩
  ·rcases dl hv with ⟨j, u, rfl, rfl⟩ | ⟨y, u, rfl, rfl⟩
   ·rw [Au] at h; exact wpAny_eqBool_int h
   ·rw [At] at h; exact SeqAt.EqAt.int_str i t y u _ _ _ _ h
  ·rcases dl hv with ⟨j, u, rfl, rfl⟩ | ⟨y, u, rfl, rfl⟩
   ·rw [As] at h; exact SeqAt.EqAt.str_int x t j u _ _ _ _ h
   ·rw [Ar] at h; exact wpAny_eqBool_str h
 «strs» := fun k x t v h => by
  rcases dl h with ⟨i, u, rfl, e⟩ | ⟨y, u, rfl, e⟩
  ·exact nomatch e
  ·injection e with e1 _
   subst e1;cases v <;> rfl
theorem so (prog : Program) (w : World) (i : Int) (t : Tok) : (bS prog w).is (.inl i) (.int i t) = true := vw i t
theorem sn (prog : Program) (w : World) (x : Str) (t : Tok) : (bS prog w).is (.inr x) (.str x t) = true := vv x t
inductive V where
 | non | bl (b : Bool) | int (i : Int) | str (x : Str) | byt (b : Array UInt8) | flt (b : UInt64) | ref (a : Addr) | ty (n : String)
 deriving DecidableEq
noncomputable def RelV : V -> Value -> Prop
 | .non, u => u = Value.none
 | .bl b, u => u = Value.bool b
 | .int i, u => ∃ t, u = Value.int i t
 | .str x, u => ∃ t, u = Value.str x t
 | .byt b, u => ∃ t, u = Value.bytes b t
 | .flt b, u => ∃ t, u = Value.float b t
 | .ref a, u => u = Value.ref a
 | .ty n, u => u = Value.type n
noncomputable abbrev Vals : List V -> List Value -> Prop := Paired RelV
theorem Vals.length {xs : List V} {us : List Value} (r : Vals xs us) : xs.length = us.length := Paired.length r
theorem Vals.get : ∀ {xs : List V} {us : List Value} {i : Nat} {x : V}, Vals xs us -> xs[i]? = some x -> ∃ u, us[i]? = some u /\ RelV x u
 | _, _, _, _, .nil, e => by simp at e
 | _, _, 0, _, .cons r _, e => by simp at e; subst e; exact ⟨_, rfl, r⟩
 | _, _, i + 1, x, .cons _ t, e => by
  obtain ⟨u, h1, h2⟩ := Vals.get (i := i) (x := x) t (by simpa using e);exact ⟨u, by simpa using h1, h2⟩
theorem Vals.set {x : V} {u : Value} (r : RelV x u) : ∀ {xs : List V} {us : List Value} (i : Nat), Vals xs us -> Vals (xs.set i x) (us.set i u)
 | _, _, _, .nil => .nil
 | _, _, 0, .cons _ t => .cons r t
 | _, _, i + 1, .cons q t => .cons q (Vals.set r i t)
theorem Vals.append : ∀ {xs ys : List V} {us ws : List Value}, Vals xs us -> Vals ys ws -> Vals (xs ++ ys) (us ++ ws) := by
 intro xs ys us ws h s
 induction h with
 | nil => exact s
 | cons r t ih => exact .cons r ih
theorem Vals.take : ∀ {xs : List V} {us : List Value} (n : Nat), Vals xs us -> Vals (xs.take n) (us.take n) := by
 intro xs us n h
 induction h generalizing n with
 | nil => cases n <;> exact .nil
 | cons r t ih => cases n with
  | zero => exact .nil
  | succ n => exact .cons r (ih n)
theorem Vals.drop : ∀ {xs : List V} {us : List Value} (n : Nat), Vals xs us -> Vals (xs.drop n) (us.drop n) := by
 intro xs us n h
 induction h generalizing n with
 | nil => cases n <;> exact .nil
 | cons r t ih => cases n with
  | zero => exact .cons r t
  | succ n => exact ih n
noncomputable def RelO : Option V -> Option Value -> Prop
 | some v, some u => RelV v u
 | none, none => True
 | _, _ => False
noncomputable def KV {κ : Type} : List (κ × V) -> List (κ × Value) -> Prop := Paired fun (p : κ × V) (q : κ × Value) => p.1 = q.1 /\ RelV p.2 q.2
noncomputable def kV : bi -> V
 | .inl i => .int i
 | .inr x => .str x
inductive HO where
  | lst (xs : List V)
  | tup (xs : List V)
  | dK (kvs : List (bi × V)) | dT (kvs : List (List bi × V))
  | set (S : Int -> Bool) (n : Nat)
  | ins (C dx : Addr) (fs : List (Str × V))
  | own (x : Addr)
  | xd (fs : List (Str × V))
  | met (f x : Addr)
  | rng (lo hi : Int)
  | frz (o : Obj) (u : HO)
  | tbl (ps : Array Value)
  | ext (φ : Heap -> Prop)
noncomputable abbrev Hp := Addr -> Option HO
noncomputable def bq (H : Hp) (a : Addr) (o : HO) : Hp := fun b => if b = a then some o else H b
theorem cW {H : Hp} {a : Addr} {o : HO} : bq H a o a = some o := by unfold bq; rw [if_pos rfl]
theorem bL {H : Hp} {a b : Addr} {o : HO} (h : b ≠ a) : bq H a o b = H b := by unfold bq; rw [if_neg h]
theorem By {H : Hp} {a b : Addr} {o u : HO} (h : H a = some o) (h' : H b = some u) (d : o ≠ u) : a ≠ b := by
 intro e; subst e; rw [h] at h'; exact d (Option.some.inj h')
theorem dG {H : Hp} {a b : Addr} {o : HO} (h : H a = some o) (h' : H b = none) : a ≠ b := by
 intro e; subst e; rw [h] at h'; cases h'
section
variable (P : Program) (w : World)
noncomputable def ObjOk (H : Hp) (h : Heap) (a : Addr) : HO -> Prop
 | .lst xs => xs.length <= sizeLine /\ ∃ (its : List Value) (n : Nat), Vals xs its /\ h.get? a = some { cls := .type "list", data := .seq its.toArray n }
 | .tup xs => xs.length <= sizeLine /\ ∃ its : List Value, Vals xs its /\ IsTup h a its.toArray
 | .dK kvs => kvs.length <= sizeLine /\ (a == sysModules) = false /\ ∃ vs, KV kvs vs /\ h.DictOf (bS P w) a vs
 | .dT kvs => kvs.length <= sizeLine /\ (a == sysModules) = false /\ ∃ xs : List (List bi × Addr × Value),
   Paired (fun (p : List bi × V) (q : List bi × Addr × Value) => p.1 = q.1 /\ H q.2.1 = some (.tup (p.1.map kV)) /\ RelV p.2 q.2.2) kvs xs /\
   ∃ o es ep, h.get? a = some o /\ o.ExactDict /\ o.data = .dict es ep /\ es.toList = xs.map (entryOfKey (tupleKind (bS P w))) /\ (xs.map (·.1)).Nodup
 | .set S n => h.SetOf (intKind P w) a S n
 | .ins C dx fs => H dx = some (.own a) /\ fs.length <= 1000 /\ dx ≠ a /\ h.get? a = some (instObj C dx) /\
   ∃ mA, h.Ns1 dx mA /\ (∀ f, RelO (fs.lookup f) (mA f)) /\ PySem.Within mA (fs.map (·.1))
 | .own _ => ∃ o, h.get? a = some o
 | .xd fs => ∃ mA, h.Ns1 a mA /\ ∀ f, RelO (fs.lookup f) (mA f)
 | .rng lo hi => ∃ t u v, h.get? a = some { cls := .type "range", data := .fields #[.int lo t, .int hi u, .int 1 v] }
 | .frz o u => h.get? a = some o /\ ObjOk H h a u
 | .tbl ps => h.get? a = some { cls := .none, data := .fields ps }
 | .met f x => h.get? a = some (methodObj (.ref f) (.ref x))
 | .ext φ => φ h /\ (∃ o, h.get? a = some o) /\ ∀ h1 h2 : Heap, φ h1 -> (∀ o, h1.get? a = some o -> h2.get? a = some o) -> φ h2
noncomputable def HOk (H : Hp) (h : Heap) : Prop := ∀ a o, H a = some o -> ObjOk P w H h a o
end
section
variable {P : Program} {w : World} {H H' : Hp} {h h' : Heap} {a : Addr} {o : HO}
theorem ObjOk.lt (x : ObjOk P w H h a o) : a < h.objs.size := by
 cases o with
 | lst xs => obtain ⟨_, _, _, _, e⟩ := x; exact Heap.lt_size e
 | tup xs => obtain ⟨_, _, _, p⟩ := x; exact p.lt
 | dK kvs => obtain ⟨_, _, _, _, o, _, _, e, _⟩ := x; exact Heap.lt_size e
 | dT kvs => obtain ⟨_, _, _, _, o, _, _, e, _⟩ := x; exact Heap.lt_size e
 | set S n => obtain ⟨o, _, _, _, e, _⟩ := x; exact Heap.lt_size e
 | ins C dx fs => obtain ⟨_, _, _, e, _⟩ := x; exact Heap.lt_size e
 | own y => obtain ⟨_, e⟩ := x; exact Heap.lt_size e
 | xd fs => obtain ⟨_, ⟨_, _, _, e, _⟩, _⟩ := x; exact Heap.lt_size e
 | rng lo hi => obtain ⟨_, _, _, e⟩ := x; exact Heap.lt_size e
 | frz ob u => obtain ⟨e, _⟩ := x; exact Heap.lt_size e
 | tbl ps => exact Heap.lt_size (show h.get? a = some _ from x)
 | met f y => exact Heap.lt_size (show h.get? a = some _ from x)
 | ext φ => obtain ⟨_, ⟨_, e⟩, _⟩ := x; exact Heap.lt_size e
theorem Paired.mapP {α β : Type} {F G : α -> β -> Prop} : ∀ {l₁ : List α} {l₂ : List β}, Paired F l₁ l₂ -> (∀ a b, F a b -> G a b) -> Paired G l₁ l₂ := by
 intro l₁ l₂ h f
 induction h with
 | nil => exact .nil
 | cons r t ih => exact .cons (f _ _ r) ih
theorem ObjOk.stay (x : ObjOk P w H h a o) (k : ∀ b u, (b = a \/ H b = some (.own a)) -> h.get? b = some u -> h'.get? b = some u)
  (ho : ∀ b, H b = some (.own a) -> H' b = some (.own a)) (ht : ∀ b xs, H b = some (.tup xs) -> H' b = some (.tup xs)) : ObjOk P w H' h' a o := by
 induction o with
 | lst xs => obtain ⟨z, its, n, r, e⟩ := x; exact ⟨z, its, n, r, k _ _ (.inl rfl) e⟩
 | tup xs => obtain ⟨z, its, r, ob, e, c⟩ := x; exact ⟨z, its, r, ob, k _ _ (.inl rfl) e, c⟩
 | dK kvs => obtain ⟨z, y, vs, r, ob, es, ep, e, c⟩ := x; exact ⟨z, y, vs, r, ob, es, ep, k _ _ (.inl rfl) e, c⟩
 | dT kvs =>
  obtain ⟨z, y, xs, r, ob, es, ep, e, c⟩ := x;exact ⟨z, y, xs, Paired.mapP r fun p q z => ⟨z.1, ht _ _ z.2.1, z.2.2⟩, ob, es, ep, k _ _ (.inl rfl) e, c⟩
 | set S n => obtain ⟨ob, es, ep, t, e, c⟩ := x; exact ⟨ob, es, ep, t, k _ _ (.inl rfl) e, c⟩
 | ins C dx fs =>
  obtain ⟨d, z, ne, e, mA, ⟨od, es, ep, e2, c⟩, r⟩ := x;exact ⟨ho _ d, z, ne, k _ _ (.inl rfl) e, mA, ⟨od, es, ep, k _ _ (.inr d) e2, c⟩, r⟩
 | own y => obtain ⟨ob, e⟩ := x; exact ⟨ob, k _ _ (.inl rfl) e⟩
 | xd fs => obtain ⟨mA, ⟨od, es, ep, e, c⟩, r⟩ := x; exact ⟨mA, ⟨od, es, ep, k _ _ (.inl rfl) e, c⟩, r⟩
 | rng lo hi => obtain ⟨t, u, v, e⟩ := x; exact ⟨t, u, v, k _ _ (.inl rfl) e⟩
 | frz ob u ih => obtain ⟨e, q⟩ := x; exact ⟨k _ _ (.inl rfl) e, ih q⟩
 | tbl ps =>
  have e : h.get? a = some { cls := .none, data := .fields ps } := x;show h'.get? a = some { cls := .none, data := .fields ps };exact k a _ (.inl rfl) e
 | met f y =>
  have e : h.get? a = some (methodObj (.ref f) (.ref y)) := x;show h'.get? a = some (methodObj (.ref f) (.ref y));exact k a _ (.inl rfl) e
 | ext φ => obtain ⟨p, ⟨o, e⟩, st⟩ := x; exact ⟨st _ _ p fun o q => k _ _ (.inl rfl) q, ⟨o, k _ _ (.inl rfl) e⟩, st⟩
theorem HOk.lt (x : HOk P w H h) (e : H a = some o) : a < h.objs.size := (x a o e).lt
theorem HOk.fresh (x : HOk P w H h) (e : h.objs.size <= a) : H a = none := by
 cases q : H a with
 | none => rfl
 | some u => exact absurd (Nat.lt_of_lt_of_le (x.lt q) e) (Nat.lt_irrefl _)
theorem HOk.kept (x : HOk P w H h) (k : ∀ b u, h.get? b = some u -> h'.get? b = some u) : HOk P w H h' := fun a o e =>
 (x a o e).stay (fun b u _ q => k b u q) (fun _ q => q) fun _ _ q => q
theorem HOk.laid (x : HOk P w H h) (k : ∀ b u, h.get? b = some u -> h'.get? b = some u) (hp : h.objs.size <= a) (new : ObjOk P w (bq H a o) h' a o) : HOk P w (bq H a o) h' := fun b u e => by
 have hn := x.fresh hp;by_cases hb : b = a
 ·subst hb; rw [cW] at e; cases e; exact new
 ·rw [bL hb] at e
  exact (x b u e).stay (fun c v _ q => k c v q) (fun c q => by rw [bL (dG q hn)]; exact q) fun c xs q => by rw [bL (dG q hn)]; exact q
end
noncomputable def Rd (H : Hp) (a : Addr) (u : HO) : Prop := H a = some u \/ ∃ o, H a = some (.frz o u)
theorem Rd.of {H : Hp} {a : Addr} {u : HO} (h : H a = some u) : Rd H a u := .inl h
theorem Rd.ok {P : Program} {w : World} {H : Hp} {h : Heap} {a : Addr} {u : HO} (r : Rd H a u) (x : HOk P w H h) : ObjOk P w H h a u := by
 rcases r with r | ⟨o, r⟩
 ·exact x a u r
 ·obtain ⟨_, q⟩ := x a _ r
  exact q
noncomputable def v7 : Option HO -> Prop
 | some (.lst _) => True
 | some (.dK _) => True
 | some (.dT _) => True
 | some (.set _ _) => True
 | some (.ins _ _ _) => True
 | some (.ext _) => True
 | _ => False
section
variable {P : Program} {w : World} {H : Hp} {h h' : Heap} {x e : Addr} {o' : HO}
theorem HOk.write (ok : HOk P w H h) (mu : v7 (H x)) (he : e = x \/ H e = some (.own x)) (k : ∀ b u, b ≠ e -> h.get? b = some u -> h'.get? b = some u) (heo : ∃ u, h'.get? e = some u)
  (new : ObjOk P w (bq H x o') h' x o') : HOk P w (bq H x o') h' := fun b u q => by
 have nown : ∀ c y, H c = some (.own y) -> c ≠ x := fun c y r z => by subst z; rw [r] at mu; exact mu
 have ntup : ∀ c xs, H c = some (.tup xs) -> c ≠ x := fun c xs r z => by subst z; rw [r] at mu; exact mu
 by_cases hb : b = x
 ·subst hb; rw [cW] at q; cases q; exact new
 ·rw [bL hb] at q
  by_cases hbe : b = e
  ·have q' : H b = some (.own x) := by
    rcases he with z | z
    ·exact absurd (hbe.trans z) hb
    ·rw [hbe]; exact z
   rw [q] at q'; cases q';obtain ⟨v, hv⟩ := heo;exact ⟨v, by rw [hbe]; exact hv⟩
  ·refine (ok b u q).stay (fun c v hc r => k c v ?_ r) (fun c r => by rw [bL (nown c b r)]; exact r) fun c xs r => by rw [bL (ntup c xs r)]; exact r
   rcases hc with rfl | hc
   ·exact hbe
   ·rintro rfl
    rcases he with z | z
    ·exact nown c b hc z
    ·rw [hc] at z; cases z; exact hb rfl
end
structure Un (fs ex : List Addr) (H H' : Hp) (h h' : Heap) : Prop where
 keep : ∀ b o, h.get? b = some o -> H b = none -> b ∉ fs -> b ∉ ex -> h'.get? b = some o
 slot : ∀ b o, h.get? b = some o -> H b = none -> b ∈ fs -> b ∉ ex -> ∃ sl, h'.get? b = some { o with slots := sl }
 free : ∀ b o, h.get? b = some o -> H b = none -> b ∉ ex -> H' b = none
 there : ∀ b o, h.get? b = some o -> b ∉ ex -> ∃ o', h'.get? b = some o'
 tups : ∀ b xs, H b = some (.tup xs) -> H' b = some (.tup xs)
 frzs : ∀ b o u, H b = some (.frz o u) -> H' b = some (.frz o u)
 tbls : ∀ b ps, H b = some (.tbl ps) -> ∃ more, H' b = some (.tbl (ps ++ more))
section
variable {fs fs' ex ex' : List Addr} {H H1 H2 : Hp} {h h1 h2 h' : Heap} {a x e : Addr} {o : HO}
theorem Un.any (u : Un fs ex H H1 h h1) {b : Addr} {ob : Obj} (q : h.get? b = some ob) (n : H b = none) (hx : b ∉ ex) : ∃ sl, h1.get? b = some { ob with slots := sl } := by
 by_cases hb : b ∈ fs
 ·exact u.slot b ob q n hb hx
 ·exact ⟨ob.slots, u.keep b ob q n hb hx⟩
theorem Un.kept (k : ∀ b u, h.get? b = some u -> h'.get? b = some u) : Un fs ex H H h h' :=
 ⟨fun b ob q _ _ _ => k b ob q, fun b ob q _ _ _ => ⟨ob.slots, k b ob q⟩, fun _ _ _ n _ => n, fun b ob q _ => ⟨ob, k b ob q⟩, fun _ _ q => q, fun _ _ _ q => q, fun _ ps q => ⟨#[], by rw [q]; simp⟩⟩
theorem Un.refl : Un fs ex H H h h := Un.kept fun _ _ q => q
theorem Un.laid (k : ∀ b u, h.get? b = some u -> h'.get? b = some u) (hp : h.objs.size <= a) (hn : H a = none) : Un fs ex H (bq H a o) h h' where
 keep := fun b u q _ _ _ => k b u q
 slot := fun b u q _ _ _ => ⟨u.slots, k b u q⟩
 free := fun b u q n _ => by rw [bL (Nat.ne_of_lt (Nat.lt_of_lt_of_le (Heap.lt_size q) hp))]; exact n
 there := fun b u q _ => ⟨u, k b u q⟩
 tups := fun b xs q => by rw [bL (dG q hn)]; exact q
 frzs := fun b u xs q => by rw [bL (dG q hn)]; exact q
 tbls := fun b ps q => ⟨#[], by rw [bL (dG q hn), q]; simp⟩
theorem Un.write (mu : v7 (H x)) (he : e = x \/ H e = some (.own x)) (k : ∀ b u, b ≠ e -> h.get? b = some u -> h'.get? b = some u) (heo : ∃ u, h'.get? e = some u) : Un fs ex H (bq H x o) h h' := by
 have hx : ∀ b, H b = none -> b ≠ x := fun b n z => by subst z; rw [n] at mu; exact mu
 have hb : ∀ b, H b = none -> b ≠ e := fun b n z => by
  subst z;rcases he with r | r
  ·exact hx b n r
  ·rw [n] at r; cases r
 have hm : ∀ b u, H b = some u -> ¬ v7 (some u) -> b ≠ x := fun b u q nm z => by subst z; rw [q] at mu; exact nm mu
 refine ⟨fun b u q n _ _ => k b u (hb b n) q, fun b u q n _ _ => ⟨u.slots, k b u (hb b n) q⟩, fun b u q n _ => by rw [bL (hx b n)]; exact n, fun b u q _ => ?_,
  fun b xs q => by rw [bL (hm b _ q fun z => z)]; exact q, fun b u xs q => by rw [bL (hm b _ q fun z => z)]; exact q, fun b ps q => ⟨#[], by rw [bL (hm b _ q fun z => z), q]; simp⟩⟩
 by_cases hbe : b = e
 ·subst hbe; exact heo
 ·exact ⟨u, k b u hbe q⟩
end
noncomputable def xp (h : Heap) (H : Hp) : List Addr := (List.range h.objs.size).filter fun a => (H a).isSome
noncomputable def kt (h : Heap) (H : Hp) : Heap := hideAll h (xp h H)
theorem vG (h : Heap) (H : Hp) : (kt h H).objs.size = h.objs.size := hideAll_size _ _
theorem wT {h : Heap} {H : Hp} {b : Addr} {o : Obj} (e : h.get? b = some o) (n : H b = none) : (kt h H).get? b = some o :=
 hideAll_get _ e fun hm => by
  have q : (H b).isSome = true := (List.mem_filter.mp hm).2;rw [n] at q; simp at q
theorem yK {h : Heap} {H : Hp} {b : Addr} {o : Obj} (e : (kt h H).get? b = some o) : h.get? b = some o /\ H b = none := by
 have e' : h.get? b = some o := of_hideAll (xp h H) e;refine ⟨e', ?_⟩;cases q : H b with
 | none => rfl
 | some x =>
  have hm : b ∈ xp h H := List.mem_filter.mpr ⟨List.mem_range.mpr (Heap.lt_size e'), by simp [q]⟩;have z : (kt h H).get? b = none := hideAll_none (xp h H) hm;rw [z] at e; cases e
noncomputable def zj (g h : Heap) (L : Addr) : List (Addr × Obj) := (List.range h.objs.size).filterMap fun a => if a = L \/ (g.get? a).isSome = true then none else (h.get? a).map fun o => (a, o)
noncomputable def dR (g h : Heap) (L d : Addr) : List (Addr × Obj) := (zj g h L).filter fun p => decide (p.1 ≠ d)
structure Mod (K : PySem.W.Frag) (mg : Str -> Option Value) (base : Heap) : Prop where
 kin : K.In base
 glob : base.Ns mainGlobals mg
 blt : ∃ mb, base.Ns builtinsNs mb /\ ∀ x : Str, x ≠ "__name__" -> mb x = bootBuiltins x
 nolimit : base.NoLimit
structure Cx where
 prog : Program
 w : World
 K : PySem.W.Frag
 mg : Str -> Option Value
 base : Heap
 A : Around
 N : List Str
 s₀ : Shared
 H₀ : Hp
 env : Env
 outer : List Env
 stack : List Env
 ex : List Addr
 fn : Str -> Bool
 calm : Bool
 pn : List (Addr × Obj)
 xe : Value -> Shared -> Prop
noncomputable def jX (l : List Env) : List Addr := l.filterMap (·.frame)
noncomputable abbrev Cx.fs (X : Cx) : List Addr := jX X.outer
noncomputable def kH (sc : Scope) (x : Str) : Prop := sc.names.lookup x = some .local \/ sc.names.lookup x = some .cell \/ sc.names.lookup x = some .free
noncomputable def nX (sc : Scope) (x : Str) : Prop := sc.names.lookup x = some .local \/ sc.names.lookup x = some .cell
noncomputable def Cu (env : Env) (h : Heap) (m : Str -> Option Value) (x : Str) (u : Value) : Prop :=
 (env.kindOf x = some .local /\ m x = some u) \/ ((env.kindOf x = some .cell \/ env.kindOf x = some .free) /\ ∃ c, env.cells.lookup x = some c /\ h.IsCell c (some u))
structure Cx.Ok (X : Cx) : Prop where
 mod : Mod X.K X.mg X.base
 kind : X.env.scope.kind = .function
 glob : X.env.globals = mainGlobals
 blt : X.env.builtins = builtinsNs
 above : X.s₀.heap.objs.size <= X.env.locals
 inj : ∀ x y c, X.env.cells.lookup x = some c -> X.env.cells.lookup y = some c -> x = y
 has : ∀ x, (X.env.kindOf x = some .cell \/ X.env.kindOf x = some .free) -> ∃ c, X.env.cells.lookup x = some c
 cab : ∀ x c, X.fn x = true -> X.env.cells.lookup x = some c -> X.s₀.heap.objs.size <= c
 hd : X.calm = true -> X.A.handled = none
 frames : X.A.frames = some X.stack
 stk : X.stack = X.outer \/ (X.stack = X.env :: X.outer /\ X.env.frame = some X.env.locals)
 exf : ∀ b ∈ X.ex, b ≠ X.env.locals /\ ∀ x c, X.env.cells.lookup x = some c -> c ≠ b
 bs : ∀ b o, X.base.get? b = some o -> X.s₀.heap.get? b = some o /\ X.H₀ b = none
 bsz : X.base.objs.size <= X.s₀.heap.objs.size
 noex : ∀ b o, X.base.get? b = some o -> b ∉ X.ex
 exfs : ∀ b ∈ X.ex, b ∉ X.fs
 funs : X.s₀.heap.FunFrames X.base X.outer
 frf : ∀ b ∈ X.fs, X.H₀ b = none
structure Inv (X : Cx) (ab : List (Addr × Obj)) (σ : List (Option V)) (H : Hp) (s : Shared) : Prop where
 ok : X.Ok
 os : s.os = X.s₀.os
 bare : AllBare s.gens
 base : Un X.fs X.ex X.H₀ H X.s₀.heap s.heap
 loc : ∃ m, s.heap.Ns X.env.locals m /\ ∀ (i : Nat) (x : Str) (v : V), X.N[i]? = some x -> σ[i]? = some (some v) -> kH X.env.scope x -> ∃ u, RelV v u /\ Cu X.env s.heap m x u
 cell : ∀ x c, X.env.cells.lookup x = some c -> ∃ v, s.heap.IsCell c v
 free : H X.env.locals = none
 freeC : ∀ x c, X.env.cells.lookup x = some c -> H c = none
 pin : ∀ p ∈ X.pn ++ ab, s.heap.get? p.1 = some p.2 /\ H p.1 = none /\ p.1 ≠ X.env.locals /\ p.1 ∉ X.fs /\ ∀ v, p.2.data ≠ .cell v
 hok : HOk X.prog X.w H s.heap
 len : σ.length = X.N.length
section
variable {X : Cx} {ab : List (Addr × Obj)} {σ : List (Option V)} {H H' : Hp} {s : Shared} {h' : Heap}
theorem Cx.Ok.nofr (ok : X.Ok) {b : Addr} {o : Obj} (e : X.base.get? b = some o) : b ∉ X.fs := fun hb => by
 have := (ok.funs.mem hb).1
 rw [e] at this; cases this
theorem Inv.bs (I : Inv X ab σ H s) : ∀ b o, X.base.get? b = some o -> s.heap.get? b = some o /\ H b = none := fun b o e =>
 ⟨I.base.keep b o (I.ok.bs b o e).1 (I.ok.bs b o e).2 (I.ok.nofr e) (I.ok.noex b o e), I.base.free b o (I.ok.bs b o e).1 (I.ok.bs b o e).2 (I.ok.noex b o e)⟩
theorem Inv.bk (I : Inv X ab σ H s) : ∀ b o, X.base.get? b = some o -> s.heap.get? b = some o := fun b o e => (I.bs b o e).1
theorem Inv.mod (I : Inv X ab σ H s) : Mod X.K X.mg X.base := I.ok.mod
theorem Inv.kIn (I : Inv X ab σ H s) : X.K.In s.heap := I.ok.mod.kin.keeps I.bk
theorem Inv.lt (I : Inv X ab σ H s) : X.env.locals < s.heap.objs.size := let ⟨_, hn, _⟩ := I.loc; hn.lt
theorem Inv.sz (I : Inv X ab σ H s) : X.s₀.heap.objs.size <= s.heap.objs.size := Nat.le_trans I.ok.above (Nat.le_of_lt I.lt)
theorem Inv.nofs (I : Inv X ab σ H s) {a : Addr} (h : s.heap.objs.size <= a) : a ∉ X.fs := fun hb => by
 obtain ⟨_, o, ho, _⟩ := I.ok.funs.mem hb;exact absurd (Nat.lt_of_lt_of_le (Heap.lt_size ho) (Nat.le_trans I.sz h)) (Nat.lt_irrefl _)
theorem Inv.cne (I : Inv X ab σ H s) : ∀ x c, X.env.cells.lookup x = some c -> c ≠ X.env.locals := fun x c e z => by
 obtain ⟨v, o, ho, hd⟩ := I.cell x c e;obtain ⟨m, ⟨o', es, ep, ho', hd', _⟩, _⟩ := I.loc;rw [z, ho'] at ho; cases ho; rw [hd'] at hd; cases hd
theorem Inv.funs (I : Inv X ab σ H s) : s.heap.FunFrames X.base X.outer := by
 have all : ∀ (l : List Env), (∀ b ∈ jX l, b ∈ X.fs) -> X.s₀.heap.FunFrames X.base l -> s.heap.FunFrames X.base l := by
  intro l
  induction l with
  | nil => intro _ _; trivial
  | cons env r ih =>
   intro hs hl;obtain ⟨hk, ⟨L, o, hf, hn, ho, hd⟩, hr⟩ := hl;have hL : L ∈ X.fs := hs L (by unfold jX; rw [List.filterMap_cons, hf]; exact List.mem_cons_self);obtain ⟨sl, e⟩ := I.base.slot L o ho (I.ok.frf L hL) hL fun z => I.ok.exfs L z hL
   exact ⟨hk, ⟨L, _, hf, hn, e, hd⟩, ih (fun b hb => hs b (by unfold jX; rw [List.filterMap_cons, hf]; exact List.mem_cons_of_mem _ hb)) hr⟩
 exact all X.outer (fun _ hb => hb) I.ok.funs
theorem Inv.stack (I : Inv X ab σ H s) : s.heap.FunFrames X.base X.stack := by
 rcases I.ok.stk with e | ⟨e, hf⟩
 ·rw [e]; exact I.funs
 ·rw [e]
  obtain ⟨m, hn, _⟩ := I.loc;refine .cons (by rw [I.ok.kind]; decide) hf hn ?_ I.funs;exact Heap.get?_none_of_le (Nat.le_trans I.ok.bsz I.ok.above)
theorem Inv.stkSub (I : Inv X ab σ H s) : ∀ b ∈ jX X.stack, b ∈ X.env.locals :: X.fs := fun b hb => by
 rcases I.ok.stk with e | ⟨e, hf⟩
 ·rw [e] at hb; exact List.mem_cons_of_mem _ hb
 ·rw [e] at hb
  unfold jX at hb;rw [List.filterMap_cons, hf] at hb;exact hb
theorem Inv.stkFree (I : Inv X ab σ H s) : ∀ b ∈ jX X.stack, H b = none := fun b hb => by
 rcases List.mem_cons.mp (I.stkSub b hb) with e | hb
 ·rw [e]; exact I.free
 ·obtain ⟨_, o, ho, _⟩ := I.ok.funs.mem hb
  exact I.base.free b o ho (I.ok.frf b hb) fun z => I.ok.exfs b z hb
theorem Inv.step {g' : Array GenState} {t' : Nat} {d' : Drawn} {ch : List Addr} (I : Inv X ab σ H s)
  (hch : ∀ b ∈ ch, (b ∈ X.ex \/ X.s₀.heap.objs.size <= b) /\ b ≠ X.env.locals /\ (∀ x c, X.env.cells.lookup x = some c -> c ≠ b) /\ ∀ p ∈ X.pn ++ ab, p.1 ≠ b)
  (keep : ∀ b o, b ≠ X.env.locals -> b ∉ X.fs -> b ∉ ch -> s.heap.get? b = some o -> H b = none -> h'.get? b = some o)
  (slot : ∀ b o, b ≠ X.env.locals -> b ∈ X.fs -> b ∉ ch -> s.heap.get? b = some o -> H b = none -> ∃ sl, h'.get? b = some { o with slots := sl }) (free : ∀ b o, b ∉ ch -> s.heap.get? b = some o -> H b = none -> H' b = none)
  (there : ∀ b o, b ∉ ch -> s.heap.get? b = some o -> ∃ o', h'.get? b = some o')
  (tups : ∀ b xs, H b = some (.tup xs) -> H' b = some (.tup xs)) (frzs : ∀ b o u, H b = some (.frz o u) -> H' b = some (.frz o u)) (tbls : ∀ b ps, H b = some (.tbl ps) -> ∃ more, H' b = some (.tbl (ps ++ more)))
  (ns : ∀ m, s.heap.Ns X.env.locals m -> h'.Ns X.env.locals m) (hok : HOk X.prog X.w H' h') (hg : AllBare g') :
  Inv X ab σ H' { s with heap := h', gens := g', drawn := d', toks := t' } := by
 have neL : ∀ b o, X.s₀.heap.get? b = some o -> b ≠ X.env.locals := fun b o e => Nat.ne_of_lt (Nat.lt_of_lt_of_le (Heap.lt_size e) I.ok.above)
 have neC : ∀ b o, X.s₀.heap.get? b = some o -> b ∉ X.ex -> b ∉ ch := fun b o e hx hb => by
  rcases (hch b hb).1 with z | z
  ·exact hx z
  ·exact absurd (Nat.lt_of_lt_of_le (Heap.lt_size e) z) (Nat.lt_irrefl _)
 have cellK : ∀ x c, X.env.cells.lookup x = some c -> ∀ v, s.heap.IsCell c v -> h'.IsCell c v := fun x c e v hq0 => by
  obtain ⟨o, ho, hd⟩ := hq0;have nch : c ∉ ch := fun z => (hch c z).2.2.1 x c e rfl
  by_cases hc : c ∈ X.fs
  ·obtain ⟨sl, q⟩ := slot c o (I.cne x c e) hc nch ho (I.freeC x c e)
   exact ⟨_, q, hd⟩
  ·exact ⟨o, keep c o (I.cne x c e) hc nch ho (I.freeC x c e), hd⟩
 refine ⟨I.ok, I.os, hg, ⟨fun b o e n hb hx => ?_, fun b o e n hb hx => ?_, fun b o e n hx => ?_, fun b o e hx => ?_, fun b xs e => tups b xs (I.base.tups b xs e), fun b o xs e => frzs b o xs (I.base.frzs b o xs e), fun b ps e => ?_⟩, ?_, fun x c e => ?_, ?_, fun x c e => ?_, fun p hp => ?_, hok, I.len⟩
 ·exact keep b o (neL b o e) hb (neC b o e hx) (I.base.keep b o e n hb hx) (I.base.free b o e n hx)
 ·obtain ⟨sl, e1⟩ := I.base.slot b o e n hb hx
  obtain ⟨sl', e2⟩ := slot b _ (neL b o e) hb (neC b o e hx) e1 (I.base.free b o e n hx);exact ⟨sl', e2⟩
 ·obtain ⟨o', e1⟩ := I.base.there b o e hx
  exact free b o' (neC b o e hx) e1 (I.base.free b o e n hx)
 ·obtain ⟨o', e1⟩ := I.base.there b o e hx
  exact there b o' (neC b o e hx) e1
 ·obtain ⟨m1, e1⟩ := I.base.tbls b ps e
  obtain ⟨m2, e2⟩ := tbls b _ e1;exact ⟨m1 ++ m2, by rw [e2, Array.append_assoc]⟩
 ·obtain ⟨m, hn, hl⟩ := I.loc
  refine ⟨m, ns m hn, fun i x v e1 e2 e3 => ?_⟩;obtain ⟨u, r, l⟩ := hl i x v e1 e2 e3;refine ⟨u, r, ?_⟩;rcases l with l | ⟨k, c, e, z⟩
  ·exact .inl l
  ·exact .inr ⟨k, c, e, cellK x c e _ z⟩
 ·obtain ⟨v, z⟩ := I.cell x c e
  exact ⟨v, cellK x c e v z⟩
 ·obtain ⟨m, ⟨o, _, _, ho, _⟩, _⟩ := I.loc
  exact free _ o (fun z => (hch _ z).2.1 rfl) ho I.free
 ·obtain ⟨v, o, ho, hd⟩ := I.cell x c e
  exact free c o (fun z => (hch c z).2.2.1 x c e rfl) ho (I.freeC x c e)
 ·obtain ⟨e, n, ne, nf, d⟩ := I.pin p hp
  have nch : p.1 ∉ ch := fun z => (hch p.1 z).2.2.2 p hp rfl
  exact ⟨keep p.1 p.2 ne nf nch e n, free p.1 p.2 nch e n, ne, nf, d⟩
theorem Inv.un {t' : Nat} (I : Inv X ab σ H s) (u : Un X.fs [] H H' s.heap h') (hok : HOk X.prog X.w H' h') : Inv X ab σ H' { s with heap := h', toks := t' } := by
 obtain ⟨m, ⟨o, es, ep, ho, r⟩, _⟩ := id I.loc;obtain ⟨sl, hL⟩ := u.any ho I.free (by simp);exact I.step (g' := s.gens) (d' := s.drawn) (ch := []) (fun _ z => nomatch z) (fun b o _ hb _ e n => u.keep b o e n hb (by simp)) (fun b o _ hb _ e n => u.slot b o e n hb (by simp)) (fun b o _ e n => u.free b o e n (by simp)) (fun b o _ e => u.there b o e (by simp)) u.tups u.frzs u.tbls (fun m' hm => by
  obtain ⟨o', es', ep', ho', r'⟩ := hm;rw [ho] at ho'; cases ho';exact ⟨_, es', ep', hL, r'⟩) hok I.bare
theorem Inv.call {g' : Array GenState} {t' : Nat} {d' : Drawn} {ch : List Addr} (I : Inv X ab σ H s) (u : Un (jX X.stack) ch H H' s.heap h') (hok : HOk X.prog X.w H' h') (hg : AllBare g')
  (hch : ∀ b ∈ ch, (b ∈ X.ex \/ X.s₀.heap.objs.size <= b) /\ b ≠ X.env.locals /\ (∀ x c, X.env.cells.lookup x = some c -> c ≠ b) /\ ∀ p ∈ X.pn ++ ab, p.1 ≠ b) :
  Inv X ab σ H' { s with heap := h', gens := g', drawn := d', toks := t' } := by
 obtain ⟨m, ⟨o, es, ep, ho, r⟩, _⟩ := id I.loc;obtain ⟨sl, hL⟩ := u.any ho I.free fun z => (hch _ z).2.1 rfl
 exact I.step (ch := ch) hch (fun b o hL hb hc e n => u.keep b o e n (fun z => (List.mem_cons.mp (I.stkSub b z)).elim hL hb) hc) (fun b o _ _ hc e n => u.any e n hc) (fun b o hc e n => u.free b o e n hc) (fun b o hc e => u.there b o e hc) u.tups u.frzs u.tbls (fun m' hm => by
  obtain ⟨o', es', ep', ho', r'⟩ := hm;rw [ho] at ho'; cases ho';exact ⟨_, es', ep', hL, r'⟩) hok hg
theorem Inv.turned {t' : Nat} {it : Addr} (I : Inv X ab σ H s) (k : ∀ b o, b ≠ it -> s.heap.get? b = some o -> h'.get? b = some o) (hn : H it = none) (hL : it ≠ X.env.locals)
  (h1 : it ∈ X.ex \/ X.s₀.heap.objs.size <= it) (h2 : ∀ x c, X.env.cells.lookup x = some c -> c ≠ it) (h3 : ∀ p ∈ X.pn ++ ab, p.1 ≠ it) : Inv X ab σ H { s with heap := h', toks := t' } := by
 have nit : ∀ b u, H b = some u -> b ≠ it := fun b u e z => by rw [z, hn] at e; cases e
 refine I.step (g' := s.gens) (d' := s.drawn) (ch := [it]) (fun b hb => ?_) (fun b o _ _ hc e _ => k b o (fun z => hc (by simp [z])) e) (fun b o _ _ hc e _ => ⟨o.slots, k b o (fun z => hc (by simp [z])) e⟩) (fun _ _ _ _ n => n)
  (fun b o hc e => ⟨o, k b o (fun z => hc (by simp [z])) e⟩) (fun _ _ e => e) (fun _ _ _ e => e) (fun b ps e => ⟨#[], by rw [e]; simp⟩) (fun m hm => ?_) (fun b u e => ?_) I.bare
 ·have e : b = it := by simpa using hb
  subst e;exact ⟨h1, hL, h2, h3⟩
 ·obtain ⟨o, es, ep, ho, r⟩ := hm
  exact ⟨o, es, ep, k _ o (Ne.symm hL) ho, r⟩
 ·refine (I.hok b u e).stay (fun c v hc q => k c v ?_ q) (fun _ q => q) fun _ _ q => q
  rcases hc with z | z
  ·rw [z]; exact nit b u e
  ·exact nit c _ z
theorem Inv.tok (I : Inv X ab σ H s) (t : Nat) : Inv X ab σ H { s with toks := t } := I.un (h' := s.heap) (t' := t) Un.refl I.hok
theorem Inv.kept {t' : Nat} (I : Inv X ab σ H s) (k : ∀ b u, s.heap.get? b = some u -> h'.get? b = some u) : Inv X ab σ H { s with heap := h', toks := t' } := I.un (Un.kept k) (I.hok.kept k)
theorem Inv.laid {a : Addr} {o : HO} {t' : Nat} (I : Inv X ab σ H s) (k : ∀ b u, s.heap.get? b = some u -> h'.get? b = some u) (hp : s.heap.objs.size <= a) (new : ObjOk X.prog X.w (bq H a o) h' a o) :
  Inv X ab σ (bq H a o) { s with heap := h', toks := t' } := I.un (Un.laid k hp (I.hok.fresh hp)) (I.hok.laid k hp new)
theorem Inv.write {x e : Addr} {o : HO} {t' : Nat} (I : Inv X ab σ H s) (mu : v7 (H x)) (he : e = x \/ H e = some (.own x)) (k : ∀ b u, b ≠ e -> s.heap.get? b = some u -> h'.get? b = some u) (heo : ∃ u, h'.get? e = some u)
  (new : ObjOk X.prog X.w (bq H x o) h' x o) : Inv X ab σ (bq H x o) { s with heap := h', toks := t' } := I.un (Un.write mu he k heo) (I.hok.write mu he k heo new)
theorem Inv.pins_of {pins' : List (Addr × Obj)} (I : Inv X ab σ H s) (h : ∀ p ∈ pins', s.heap.get? p.1 = some p.2 /\ H p.1 = none /\ p.1 ≠ X.env.locals /\ p.1 ∉ X.fs /\ ∀ v, p.2.data ≠ .cell v) : Inv X pins' σ H s :=
 ⟨I.ok, I.os, I.bare, I.base, I.loc, I.cell, I.free, I.freeC, fun p hp => (List.mem_append.mp hp).elim (fun z => I.pin p (List.mem_append_left _ z)) (h p), I.hok, I.len⟩
theorem qH {N : List Str} (hN : N.Nodup) {i j : Nat} {x : Str} (a : N[i]? = some x) (b : N[j]? = some x) : i = j := by
 obtain ⟨h1, e1⟩ := List.getElem?_eq_some_iff.mp a;obtain ⟨h2, e2⟩ := List.getElem?_eq_some_iff.mp b;exact (List.getElem_inj hN).mp (e1.trans e2.symm)
theorem pf {M : Model} {A : Around} {E : Value -> Shared -> Prop} {i : Nat} {x : Str} {v : V} {u : Value} {Q : Unit -> Shared -> Prop} (I : Inv X ab σ H s) (hN : X.N.Nodup) (hi : X.N[i]? = some x) (hx : nX X.env.scope x) (r : RelV v u)
  (h : ∀ s', Inv X ab (σ.set i (some v)) H s' -> (∃ a, Heap.SameBut a s.heap s'.heap /\ (a = X.env.locals \/ X.env.cells.lookup x = some a)) -> Q () s') (hf : autoParam (X.fn x = true \/ X.env.scope.names.lookup x = some .local) n0._auto_1) : wpAny M A (storeName X.env x u) Q E s := by
 obtain ⟨m, hn, hl⟩ := id I.loc;have hcls : (X.env.scope.kind == .class || (X.env.scope.kind == .module && X.env.locals != X.env.globals)) = false := by rw [I.ok.kind]; rfl
 have hiσ : i < σ.length := by rw [I.len]; exact (List.getElem?_eq_some_iff.mp hi).1
 have cne := I.cne;have tracked : ∀ {a : Addr} {h' : Heap}, (∃ o, s.heap.get? a = some o /\ H a = none) -> Heap.SameBut a s.heap h' -> HOk X.prog X.w H h' := fun {a h'} ha hs b ob e => by
  obtain ⟨_, _, hfree⟩ := ha;refine (I.hok b ob e).stay (fun c w' hc q => (hs.2 c ?_).trans q) (fun _ q => q) fun _ _ q => q
  rintro rfl;rcases hc with rfl | hc
  ·rw [hfree] at e; cases e
  ·rw [hfree] at hc; cases hc
 rcases hx with hk | hk
 ·refine wpAny_storeName_local hk hn (fun h' hn' hs => ?_) hcls
  obtain ⟨oL, _, _, hoL, _⟩ := id hn;refine h _ ⟨I.ok, I.os, I.bare, ⟨fun b o e n hb hx => ?_, fun b o e n hb hx => ?_, I.base.free, fun b o e hx => ?_, I.base.tups, I.base.frzs, I.base.tbls⟩, ⟨_, hn', fun j y v' e1 e2 e3 => ?_⟩, fun y c e => ?_, I.free, I.freeC, fun p hp => ?_, tracked ⟨oL, hoL, I.free⟩ hs, by simpa using I.len⟩ ⟨_, hs, .inl rfl⟩
  ·exact (hs.2 b (Nat.ne_of_lt (Nat.lt_of_lt_of_le (Heap.lt_size e) I.ok.above))).trans (I.base.keep b o e n hb hx)
  ·obtain ⟨sl, e1⟩ := I.base.slot b o e n hb hx
   exact ⟨sl, (hs.2 b (Nat.ne_of_lt (Nat.lt_of_lt_of_le (Heap.lt_size e) I.ok.above))).trans e1⟩
  ·obtain ⟨o', e1⟩ := I.base.there b o e hx
   exact ⟨o', (hs.2 b (Nat.ne_of_lt (Nat.lt_of_lt_of_le (Heap.lt_size e) I.ok.above))).trans e1⟩
  ·by_cases hj : j = i
   ·subst hj
    rw [hi] at e1; cases e1;rw [List.getElem?_set_self hiσ] at e2;cases e2;exact ⟨u, r, .inl ⟨hk, by simp⟩⟩
   ·rw [List.getElem?_set_ne (Ne.symm hj)] at e2
    obtain ⟨u', r', q⟩ := hl j y v' e1 e2 e3;refine ⟨u', r', ?_⟩;rcases q with ⟨k, e⟩ | ⟨k, c, e, z⟩
    ·refine .inl ⟨k, ?_⟩
     have : y ≠ x := fun e => hj (qH hN e1 (e ▸ hi))
     simp [this, e]
    ·exact .inr ⟨k, c, e, z.sameBut hs (cne y c e)⟩
  ·obtain ⟨w', z⟩ := I.cell y c e
   exact ⟨w', z.sameBut hs (cne y c e)⟩
  ·obtain ⟨e, n, ne, nf, d⟩ := I.pin p hp
   exact ⟨(hs.2 p.1 ne).trans e, n, ne, nf, d⟩
 ·have hfn : X.fn x = true := by
   rcases hf with z | z
   ·exact z
   ·rw [z] at hk; cases hk
  obtain ⟨c, hc⟩ := I.ok.has x (.inl hk);obtain ⟨w', z⟩ := I.cell x c hc;refine wpAny_storeName_cell I.ok.kind hk hc z (fun h' hc' hs => ?_);obtain ⟨oc, hoc, hocd⟩ := id z;refine h { s with heap := h' } ⟨I.ok, I.os, I.bare, ⟨fun b o e n hb hx => ?_, fun b o e n hb hx => ?_, I.base.free, fun b o e hx => ?_, I.base.tups, I.base.frzs, I.base.tbls⟩, ⟨m, hn.sameBut hs (Ne.symm (cne x c hc)), fun j y v' e1 e2 e3 => ?_⟩, fun y c' e => ?_, I.free, I.freeC, fun p hp => ?_, tracked ⟨oc, hoc, I.freeC x c hc⟩ hs, by simpa using I.len⟩ ⟨c, hs, .inr hc⟩
  ·exact (hs.2 b (Nat.ne_of_lt (Nat.lt_of_lt_of_le (Heap.lt_size e) (I.ok.cab x c hfn hc)))).trans (I.base.keep b o e n hb hx)
  ·obtain ⟨sl, e1⟩ := I.base.slot b o e n hb hx
   exact ⟨sl, (hs.2 b (Nat.ne_of_lt (Nat.lt_of_lt_of_le (Heap.lt_size e) (I.ok.cab x c hfn hc)))).trans e1⟩
  ·obtain ⟨o', e1⟩ := I.base.there b o e hx
   exact ⟨o', (hs.2 b (Nat.ne_of_lt (Nat.lt_of_lt_of_le (Heap.lt_size e) (I.ok.cab x c hfn hc)))).trans e1⟩
  ·by_cases hj : j = i
   ·subst hj
    rw [hi] at e1; cases e1;rw [List.getElem?_set_self hiσ] at e2;cases e2;exact ⟨u, r, .inr ⟨.inl hk, c, hc, hc'⟩⟩
   ·rw [List.getElem?_set_ne (Ne.symm hj)] at e2
    obtain ⟨u', r', q⟩ := hl j y v' e1 e2 e3;refine ⟨u', r', ?_⟩;rcases q with q | ⟨k, c', e, z'⟩
    ·exact .inl q
    ·refine .inr ⟨k, c', e, z'.sameBut hs ?_⟩
     rintro rfl;exact hj (qH hN e1 (I.ok.inj _ _ _ e hc ▸ hi))
  ·by_cases hcc : c' = c
   ·subst hcc; exact ⟨_, hc'⟩
   ·obtain ⟨w2, z2⟩ := I.cell y c' e
    exact ⟨w2, z2.sameBut hs hcc⟩
  ·obtain ⟨e, n, ne, nf, d⟩ := I.pin p hp
   refine ⟨(hs.2 p.1 ?_).trans e, n, ne, nf, d⟩;intro q;rw [q, hoc] at e;have q' : oc = p.2 := Option.some.inj e;exact d w' (by rw [<- q']; exact hocd)
theorem qd {M : Model} {A : Around} {E : Value -> Shared -> Prop} {i : Nat} {x : Str} {v : V} {u : Value} {Q : Unit -> Shared -> Prop} (I : Inv X ab σ H s) (hN : X.N.Nodup) (hi : X.N[i]? = some x) (hx : nX X.env.scope x) (r : RelV v u)
  (h : ∀ s', Inv X ab (σ.set i (some v)) H s' -> Q () s') (hf : autoParam (X.fn x = true \/ X.env.scope.names.lookup x = some .local) n0._auto_1) : wpAny M A (storeName X.env x u) Q E s :=
 pf I hN hi hx r (fun s' I' _ => h s' I') hf
theorem Inv.call' {s' : Shared} {ch : List Addr} (I : Inv X ab σ H s) (ho : s'.os = s.os) (u : Un (jX X.stack) ch H H' s.heap s'.heap) (hok : HOk X.prog X.w H' s'.heap) (hg : AllBare s'.gens)
  (hch : ∀ b ∈ ch, (b ∈ X.ex \/ X.s₀.heap.objs.size <= b) /\ b ≠ X.env.locals /\ (∀ x c, X.env.cells.lookup x = some c -> c ≠ b) /\ ∀ p ∈ X.pn ++ ab, p.1 ≠ b) : Inv X ab σ H' s' := by
 obtain ⟨h', g', d', t', o'⟩ := s';have e : o' = s.os := ho;subst e;exact I.call (g' := g') (t' := t') (d' := d') u hok hg hch
end
noncomputable abbrev XK := Value -> Option Addr -> Hp -> Prop
noncomputable abbrev St := List (Option V)
noncomputable abbrev VK := V -> Hp -> Prop
noncomputable abbrev TE := St -> Hp -> VK -> Prop
noncomputable abbrev TT := St -> Hp -> (Bool -> Hp -> Prop) -> Prop
noncomputable abbrev TA := St -> Hp -> (List V -> Hp -> Prop) -> Prop
structure lw where
 nx : St -> Hp -> Prop
 rt : VK
 bk : St -> Hp -> Prop := fun _ _ => False
 ct : St -> Hp -> Prop := fun _ _ => False
noncomputable abbrev TS := lw -> St -> Hp -> Prop
noncomputable def EP (X : Cx) (ab : List (Addr × Obj)) (σ : St) (Q : VK) (u : Value) (s' : Shared) : Prop := ∃ v H', Inv X ab σ H' s' /\ RelV v u /\ Q v H'
noncomputable def TP (X : Cx) (ab : List (Addr × Obj)) (σ : St) (Q : Bool -> Hp -> Prop) (b : Bool) (s' : Shared) : Prop := ∃ H', Inv X ab σ H' s' /\ Q b H'
noncomputable def AP (X : Cx) (ab : List (Addr × Obj)) (σ : St) (Q : List V -> Hp -> Prop) (us : List Value) (s' : Shared) : Prop := ∃ vs H', Inv X ab σ H' s' /\ Vals vs us /\ Q vs H'
noncomputable def SP (X : Cx) (ab : List (Addr × Obj)) (D : lw) (f : Flow) (s' : Shared) : Prop :=
 match f with
 | .next => ∃ σ' H', Inv X ab σ' H' s' /\ D.nx σ' H'
 | .brk => ∃ σ' H', Inv X ab σ' H' s' /\ D.bk σ' H'
 | .cont => ∃ σ' H', Inv X ab σ' H' s' /\ D.ct σ' H'
 | .ret u => ∃ v σ' H', Inv X ab σ' H' s' /\ RelV v u /\ D.rt v H'
noncomputable def PE (X : Cx) (e : Expr) (t : TE) : Prop :=
 ∀ (ab : List (Addr × Obj)) (s : Shared) (σ : St) (H : Hp) (Q : VK), Inv X ab σ H s -> t σ H Q -> wpAny (model X.prog X.w) X.A (eval e X.env) (EP X ab σ Q) X.xe s
noncomputable def PT (X : Cx) (e : Expr) (t : TT) : Prop :=
 ∀ (ab : List (Addr × Obj)) (s : Shared) (σ : St) (H : Hp) (Q : Bool -> Hp -> Prop), Inv X ab σ H s -> t σ H Q -> wpAny (model X.prog X.w) X.A (isTrue e X.env (eval e X.env)) (TP X ab σ Q) X.xe s
noncomputable def PW (X : Cx) (e : Expr) (t : TT) : Prop :=
 ∀ (whole : Sem Value) (ab : List (Addr × Obj)) (s : Shared) (σ : St) (H : Hp) (Q : Bool -> Hp -> Prop), Inv X ab σ H s -> t σ H Q -> wpAny (model X.prog X.w) X.A (isTrue e X.env whole) (TP X ab σ Q) X.xe s
theorem PW.pt {X : Cx} {e : Expr} {t : TT} (h : PW X e t) : PT X e t := h _
noncomputable def PA (X : Cx) (es : List Expr) (t : TA) : Prop :=
 ∀ (pos : Pos) (ab : List (Addr × Obj)) (s : Shared) (σ : St) (H : Hp) (Q : List V -> Hp -> Prop), Inv X ab σ H s -> t σ H Q -> wpAny (model X.prog X.w) X.A (spliced (backTo pos (starEach es X.env))) (AP X ab σ Q) X.xe s
noncomputable def PS (X : Cx) (st : Stmt) (t : TS) : Prop :=
 ∀ (ab : List (Addr × Obj)) (s : Shared) (σ : St) (H : Hp) (D : lw), Inv X ab σ H s -> t D σ H -> wpAny (model X.prog X.w) X.A (exec st X.env) (SP X ab D) X.xe s
noncomputable def PSs (X : Cx) (st : List Stmt) (t : TS) : Prop :=
 ∀ (ab : List (Addr × Obj)) (s : Shared) (σ : St) (H : Hp) (D : lw), Inv X ab σ H s -> t D σ H -> wpAny (model X.prog X.w) X.A (execs st X.env) (SP X ab D) X.xe s
theorem bQ {α : Type} {t : Sem α} {Q Q' : α -> Shared -> Prop} {M : Model} {A : Around} {E : Value -> Shared -> Prop} {s : Shared} (h : wpAny M A t Q E s) (hQ : ∀ a s, Q a s -> Q' a s) : wpAny M A t Q' E s := wpAny_mono h hQ fun _ _ x => x
section
variable {X : Cx}
theorem C2 {a b : Expr} {ta tb : TE} (ha : PE X a ta) (hb : PE X b tb) {ab : List (Addr × Obj)} {s : Shared} {σ : St} {H : Hp} {R : V -> V -> Hp -> Prop} (I : Inv X ab σ H s) (h : ta σ H fun x H1 => tb σ H1 fun y H2 => R x y H2)
  {α : Type} {Q : α -> Shared -> Prop} {f : Value -> Value -> Sem α}
  (hf : ∀ v u s2 x y H2, Inv X ab σ H2 s2 -> RelV x v -> RelV y u -> R x y H2 -> wpAny (model X.prog X.w) X.A (f v u) Q X.xe s2) :
  wpAny (model X.prog X.w) X.A (eval a X.env) (fun v s₁ => wpAny (model X.prog X.w) X.A (eval b X.env) (fun u s₂ => wpAny (model X.prog X.w) X.A (f v u) Q X.xe s₂) X.xe s₁) X.xe s := by
 refine bQ (ha ab s σ H _ I h) fun v s1 ⟨x, H1, I1, r1, q1⟩ => ?_
 refine bQ (hb ab s1 σ H1 _ I1 q1) fun u s2 ⟨y, H2, I2, r2, q2⟩ => ?_
 exact hf v u s2 x y H2 I2 r1 r2 q2
noncomputable def zp (i : Nat) : TE := fun σ H Q => ∃ v, σ[i]? = some (some v) /\ Q v H
noncomputable def tC (v : V) : TE := fun _ H Q => Q v H
theorem fY {i : Nat} {x : Str} {pos : Pos} (hN : X.N[i]? = some x) (hv : kH X.env.scope x) (hd : autoParam ((x == ("__debug__" : Str)) = false) cz._auto_1) (hcd : autoParam ((x == ("__classdict__" : Str)) = false) cz._auto_1) : PE X (.Name x pos) (zp i) := by
 intro ab s σ H Q I h;obtain ⟨v, e, h⟩ := h;obtain ⟨m, hn, hl⟩ := I.loc;obtain ⟨u, r, l⟩ := hl i x v hN e hv;have fin : EP X ab σ Q u s := ⟨v, H, I, r, h⟩;rcases l with ⟨hk, hm⟩ | ⟨hk, c, hc, hcell⟩
 ·exact wpAny_Name (wpAny_loadName_local I.ok.kind hk hn hm fin) hd
 ·rcases hk with hk | hk
  ·exact wpAny_Name (wpAny_loadName_cell I.ok.kind hk hc hcell fin) hd
  ·exact wpAny_Name (wpAny_loadName_free I.ok.kind hk hc hcell fin hcd) hd
theorem zX {i j pos} : PE X (.Constant (.int i) j pos) (tC (.int i)) := fun _ _ _ H _ I h => wpAny_Constant_int ⟨.int i, H, I.tok _, ⟨_, rfl⟩, h⟩
theorem Bs {b j pos} : PE X (.Constant (.bool b) j pos) (tC (.bl b)) := fun _ _ _ H _ I h => Constant_bool ⟨.bl b, H, I, rfl, h⟩
theorem zV {x j pos} : PE X (.Constant (.str x) j pos) (tC (.str x)) := fun _ _ _ H _ I h => Calls.Constant_str ⟨.str x, H, I.tok _, ⟨_, rfl⟩, h⟩
noncomputable def Gl (X : Cx) (x : Str) : Prop := X.env.kindOf x = some .globalImplicit
theorem yR {E : Value -> Shared -> Prop} {ab : List (Addr × Obj)} {s : Shared} {σ : St} {H : Hp} {x : Str} {u : Value} {pos : Pos} {Q : Value -> Shared -> Prop} (I : Inv X ab σ H s) (hg : Gl X x) (hm : X.mg x = some u) (h : Q u s)
  (hd : autoParam ((x == ("__debug__" : Str)) = false) cz._auto_1) : wpAny (model X.prog X.w) X.A (eval (.Name x pos) X.env) Q E s :=
 Calls.Name_function_global I.ok.kind hg (Calls.loadGlobal_global (by rw [I.ok.glob]; exact I.mod.glob.keeps I.bk) hm h) hd
theorem lf {E : Value -> Shared -> Prop} {ab : List (Addr × Obj)} {s : Shared} {σ : St} {H : Hp} {x : Str} {u : Value} {pos : Pos} {Q : Value -> Shared -> Prop} (I : Inv X ab σ H s) (hg : Gl X x) (hm : X.mg x = none) (hv : bootBuiltins x = some u) (h : Q u s)
  (hn : autoParam (x ≠ "__name__") cz._auto_1) (hd : autoParam ((x == ("__debug__" : Str)) = false) cz._auto_1) : wpAny (model X.prog X.w) X.A (eval (.Name x pos) X.env) Q E s := by
 obtain ⟨mb, h1, h2⟩ := I.mod.blt;exact Calls.Name_function_global I.ok.kind hg (Calls.loadGlobal_builtin (by rw [I.ok.glob]; exact I.mod.glob.keeps I.bk) hm (by rw [I.ok.blt]; exact h1.keeps I.bk) ((h2 x hn).trans hv) h) hd
theorem yI {x : Str} {v : V} {u : Value} {pos : Pos} (hg : Gl X x) (hm : X.mg x = none) (hv : bootBuiltins x = some u) (r : RelV v u) (hn : autoParam (x ≠ "__name__") cz._auto_1) (hd : autoParam ((x == ("__debug__" : Str)) = false) cz._auto_1) : PE X (.Name x pos) (tC v) :=
 fun _ _ _ H _ I h => lf I hg hm hv ⟨v, H, I, r, h⟩ hn hd
variable {a b : Expr} {ta tb : TE} {pos : Pos}
noncomputable def PC (X : Cx) (op : CmpOp) (a b : Expr) (t : TE) : Prop :=
 ∀ (ab : List (Addr × Obj)) (s : Shared) (σ : St) (H : Hp) (Q : VK), Inv X ab σ H s -> t σ H Q ->
  wpAny (model X.prog X.w) X.A (eval a X.env) (fun v s₁ => wpAny (model X.prog X.w) X.A (eval b X.env) (fun u s₂ => wpAny (model X.prog X.w) X.A (compareOp op v u) (EP X ab σ Q) X.xe s₂) X.xe s₁) X.xe s
theorem wB (b : Expr) {op : CmpOp} (h : op ≠ .In) (h2 : op ≠ .NotIn) : behindInMarks op b = false := by
 have e1 : (op == CmpOp.In) = false := by cases op <;> first | rfl | exact absurd rfl h
 have e2 : (op == CmpOp.NotIn) = false := by cases op <;> first | rfl | exact absurd rfl h2
 cases b <;> simp [behindInMarks, e1, e2]
noncomputable def tB (t : TE) : TT := fun σ H Q => t σ H fun x H1 => ∃ c, x = .bl c /\ Q c H1
theorem CL {op : CmpOp} {t : TE} (h : PC X op a b t) (h1 : autoParam (behindInMarks op b = false) CY._auto_1) : PT X (.Compare a [op] [b] pos) (tB t) := by
 intro ab s σ H Q I hw;refine wpAny_isTrue_Compare1 (bQ (h ab s σ H _ I hw) fun v s1 h1 => bQ h1 fun u s2 h2 => bQ h2 fun c s3 ⟨x, H1, I1, r1, q1⟩ => ?_) h1;obtain ⟨d, rfl, q⟩ := q1;cases r1;exact wpAny_truthy_bool ⟨H1, I1, q⟩
theorem zM {e : Expr} {t : TE} (h : PE X e t) (he : autoParam (∀ whole, isTrue e X.env whole = (do let v <- whole; standAt e.pos; holding [v] (truthy v))) kJ._auto_1) : PT X e (tB t) := by
 intro ab s σ H Q I hw;refine isTrue_plain (bQ (h ab s σ H _ I hw) fun v s1 ⟨x, H1, I1, r1, q1⟩ => ?_) (he _);obtain ⟨d, rfl, q⟩ := q1;cases r1;exact wpAny_truthy_bool ⟨H1, I1, q⟩
variable {tA tB' : TT} {dR : List Expr}
noncomputable def Ce (t u : TT) : TT := fun σ H Q => t σ H fun c H1 => if c = true then u σ H1 Q else Q false H1
noncomputable def CA (t u : TT) : TT := fun σ H Q => t σ H fun c H1 => if c = true then Q true H1 else u σ H1 Q
noncomputable def B7 (t : TT) : TT := fun σ H Q => t σ H fun c H1 => Q (!c) H1
theorem yt (ha : PT X a tA) : PW X (.BoolOp .And [a] pos) tA := by
 intro wh ab s σ H Q I h;refine isTrue_and (bQ (ha ab s σ H Q I h) fun c s1 e => ?_);cases c with
 | true => exact isTrue_and_nil e
 | false => exact e
theorem zK (ha : PT X a tA) : PW X (.BoolOp .Or [a] pos) tA := by
 intro wh ab s σ H Q I h;refine isTrue_or (bQ (ha ab s σ H Q I h) fun c s1 e => ?_);cases c with
 | false => exact isTrue_or_nil e
 | true => exact e
theorem zL (ha : PT X a tA) (hb : PW X (.BoolOp .And (b :: dR) pos) tB') : PW X (.BoolOp .And (a :: b :: dR) pos) (Ce tA tB') := by
 intro wh ab s σ H Q I h;refine isTrue_and (bQ (ha ab s σ H _ I h) fun c s1 ⟨H1, I1, q1⟩ => ?_);cases c with
 | true => exact hb wh ab s1 σ H1 Q I1 q1
 | false => exact ⟨H1, I1, q1⟩
theorem Bl (ha : PT X a tA) (hb : PW X (.BoolOp .Or (b :: dR) pos) tB') : PW X (.BoolOp .Or (a :: b :: dR) pos) (CA tA tB') := by
 intro wh ab s σ H Q I h;refine isTrue_or (bQ (ha ab s σ H _ I h) fun c s1 ⟨H1, I1, q1⟩ => ?_);cases c with
 | true => exact ⟨H1, I1, q1⟩
 | false => exact hb wh ab s1 σ H1 Q I1 q1
theorem zN (ha : PT X a tA) : PT X (.UnaryOp .Not a pos) (B7 tA) := by
 intro ab s σ H Q I h;exact isTrue_not (ha ab s σ H (fun c H1 => Q (!c) H1) I h)
noncomputable def Bc (ta tb : TE) : TE := fun σ H Q => ta σ H fun x H1 => ∃ c, x = .bl c /\ if c = true then tb σ H1 Q else Q (.bl false) H1
noncomputable def B6 (ta tb : TE) : TE := fun σ H Q => ta σ H fun x H1 => ∃ c, x = .bl c /\ if c = true then Q (.bl true) H1 else tb σ H1 Q
theorem zW {op} {t : TE} (h : PE X a t) : PE X (.BoolOp op [a] pos) t := fun ab s σ H Q I hw => BoolOp_one (h ab s σ H Q I hw)
theorem zZ (ha : PE X a ta) (hb : PE X (.BoolOp .And (b :: dR) pos) tb) : PE X (.BoolOp .And (a :: b :: dR) pos) (Bc ta tb) := by
 intro ab s σ H Q I h;refine BoolOp_and (bQ (ha ab s σ H _ I h) fun v s1 ⟨x, H1, I1, r1, q1⟩ => ?_);obtain ⟨c, rfl, q1⟩ := q1;cases r1;refine wpAny_truthy_bool ?_;cases c with
 | true => exact hb ab s1 σ H1 Q I1 q1
 | false => exact ⟨.bl false, H1, I1, rfl, q1⟩
theorem Bq (ha : PE X a ta) (hb : PE X (.BoolOp .Or (b :: dR) pos) tb) : PE X (.BoolOp .Or (a :: b :: dR) pos) (B6 ta tb) := by
 intro ab s σ H Q I h;refine BoolOp_or (bQ (ha ab s σ H _ I h) fun v s1 ⟨x, H1, I1, r1, q1⟩ => ?_);obtain ⟨c, rfl, q1⟩ := q1;cases r1;refine wpAny_truthy_bool ?_;cases c with
 | false => exact hb ab s1 σ H1 Q I1 q1
 | true => exact ⟨.bl true, H1, I1, rfl, q1⟩
end
noncomputable def fg (K : PySem.W.Frag) (H : Hp) (a : Addr) (xs : List V) : Prop :=
 Rd H a (.lst xs) \/
  ∃ (o : Obj) (its : Array Value) (n : Nat), K.lookup a = some o /\ o.cls = .type "list" /\ o.dict = none /\ o.data = .seq its n /\ its.size <= sizeLine /\ Vals xs its.toList
noncomputable def mq (K : PySem.W.Frag) (H : Hp) (a : Addr) (xs : List V) : Prop :=
 Rd H a (.tup xs) \/
  ∃ (o : Obj) (its : Array Value) (n : Nat), K.lookup a = some o /\ o.cls = .type "tuple" /\ o.data = .seq its n /\ its.size <= sizeLine /\ Vals xs its.toList
noncomputable def Ct : Value -> Option V
 | .none => some .non
 | .bool b => some (.bl b)
 | .int i _ => some (.int i)
 | .str x _ => some (.str x)
 | .bytes b _ => some (.byt b)
 | .float b _ => some (.flt b)
 | .ref a => some (.ref a)
 | .type n => some (.ty n)
 | _ => none
theorem RelV.abs {x : V} {u : Value} (r : RelV x u) : Ct u = some x := by
 cases x with
 | non => cases r; rfl
 | bl _ => cases r; rfl
 | int _ => obtain ⟨t, rfl⟩ := r; rfl
 | str _ => obtain ⟨t, rfl⟩ := r; rfl
 | byt _ => obtain ⟨t, rfl⟩ := r; rfl
 | flt _ => obtain ⟨t, rfl⟩ := r; rfl
 | ref _ => cases r; rfl
 | ty _ => cases r; rfl
theorem RelV.inj {x y : V} {u : Value} (r : RelV x u) (q : RelV y u) : x = y := Option.some.inj (r.abs.symm.trans q.abs)
theorem Vals.inj {xs ys : List V} {us : List Value} (h : Vals xs us) : Vals ys us -> xs = ys := by
 induction h generalizing ys with
 | nil => intro h'; cases h'; rfl
 | cons r t ih =>
  intro h';cases h' with
  | cons r' t' => rw [r.inj r', ih t']
section
variable {X : Cx} {ab : List (Addr × Obj)} {σ : St} {H : Hp} {s : Shared} {a : Addr} {xs ys : List V}
theorem Inv.list (I : Inv X ab σ H s) (h : fg X.K H a xs) : ∃ its : List Value, Vals xs its /\ PlainL s.heap a its.toArray /\ xs.length <= sizeLine := by
 rcases h with h | ⟨o, its, n, hk, hc, hd, hs, hz, r⟩
 ·obtain ⟨z, its, n, r, e⟩ := h.ok I.hok
  exact ⟨its, r, ⟨_, n, e, rfl, rfl, rfl⟩, z⟩
 ·refine ⟨its.toList, r, ⟨o, n, I.kIn a o hk, hc, hd, by simpa using hs⟩, ?_⟩
  have e := r.length;simp only [Array.length_toList] at e;omega
theorem Inv.tuple (I : Inv X ab σ H s) (h : mq X.K H a xs) : ∃ its : List Value, Vals xs its /\ IsTup s.heap a its.toArray /\ xs.length <= sizeLine := by
 rcases h with h | ⟨o, its, n, hk, hc, hs, hz, r⟩
 ·obtain ⟨z, its, r, p⟩ := h.ok I.hok
  exact ⟨its, r, p, z⟩
 ·refine ⟨its.toList, r, ⟨o, I.kIn a o hk, hc, n, by simpa using hs⟩, ?_⟩
  have e := r.length;simp only [Array.length_toList] at e;omega
theorem Inv.list_inj (I : Inv X ab σ H s) (h : fg X.K H a xs) (h' : fg X.K H a ys) : xs = ys := by
 obtain ⟨its, r, ⟨o, n, e, _, _, d⟩, _⟩ := I.list h;obtain ⟨its', r', ⟨o', n', e', _, _, d'⟩, _⟩ := I.list h';rw [e] at e'; cases e';rw [d] at d';injection d' with d1 _;have : its = its' := by simpa using congrArg Array.toList d1
 subst this;exact r.inj r'
end
noncomputable abbrev Cx.wish (X : Cx) (E : Value -> Shared -> Prop) : Cx := { X with xe := E }
noncomputable abbrev Cx.nox (X : Cx) : Cx := X.wish fun _ _ => False
theorem Cx.Ok.wish {X : Cx} (ok : X.Ok) (E : Value -> Shared -> Prop) : (X.wish E).Ok :=
 ⟨ok.mod, ok.kind, ok.glob, ok.blt, ok.above, ok.inj, ok.has, ok.cab, ok.hd, ok.frames, ok.stk, ok.exf, ok.bs, ok.bsz, ok.noex, ok.exfs, ok.funs, ok.frf⟩
theorem Cx.Ok.unwish {X : Cx} {E : Value -> Shared -> Prop} (ok : (X.wish E).Ok) : X.Ok :=
 ⟨ok.mod, ok.kind, ok.glob, ok.blt, ok.above, ok.inj, ok.has, ok.cab, ok.hd, ok.frames, ok.stk, ok.exf, ok.bs, ok.bsz, ok.noex, ok.exfs, ok.funs, ok.frf⟩
section
variable {X : Cx} {ab : List (Addr × Obj)} {σ : St} {H : Hp} {s : Shared} {E : Value -> Shared -> Prop}
theorem Inv.wish (I : Inv X ab σ H s) (E : Value -> Shared -> Prop) : Inv (X.wish E) ab σ H s := ⟨I.ok.wish E, I.os, I.bare, I.base, I.loc, I.cell, I.free, I.freeC, I.pin, I.hok, I.len⟩
theorem Inv.unwish (I : Inv (X.wish E) ab σ H s) : Inv X ab σ H s := ⟨I.ok.unwish, I.os, I.bare, I.base, I.loc, I.cell, I.free, I.freeC, I.pin, I.hok, I.len⟩
theorem SP.unwish {D : lw} {f : Flow} {s' : Shared} (h : SP (X.wish E) ab D f s') : SP X ab D f s' := by
 cases f with
 | next => obtain ⟨σ', H', I, q⟩ := h; exact ⟨σ', H', I.unwish, q⟩
 | brk => obtain ⟨σ', H', I, q⟩ := h; exact ⟨σ', H', I.unwish, q⟩
 | cont => obtain ⟨σ', H', I, q⟩ := h; exact ⟨σ', H', I.unwish, q⟩
 | ret u => obtain ⟨v, σ', H', I, r, q⟩ := h; exact ⟨v, σ', H', I.unwish, r, q⟩
theorem PSs.nox {st : List Stmt} {t : TS} (h : PSs X.nox st t) : PSs X st t := fun ab s σ H D I hw =>
 wpAny_mono (h ab s σ H D (I.wish _) hw) (fun _ _ q => q.unwish) fun _ _ z => False.elim z
end
section
variable {X : Cx} {st : Stmt} {dR : List Stmt} {t u : TS} {e : Expr} {te : TE} {pos : Pos}
noncomputable def A9 : TS := fun D σ H => D.nx σ H
noncomputable def tSeq (t u : TS) : TS := fun D σ H => t { D with nx := u D } σ H
theorem yw : PSs X [] A9 := fun _ _ σ H _ I h => wpAny_execs_nil ⟨σ, H, I, h⟩
theorem wk (h1 : PS X st t) (h2 : PSs X dR u) : PSs X (st :: dR) (tSeq t u) := by
 intro ab s σ H D I h;refine wpAny_execs_cons (bQ (h1 ab s σ H { D with nx := u D } I h) fun f s1 q => ?_);cases f with
 | next =>
  obtain ⟨σ', H', I', q⟩ := q;exact h2 ab s1 σ' H' D I' q
 | ret v => exact q
 | brk => exact q
 | cont => exact q
theorem yu (h1 : PS X st t) : PSs X [st] t := by
 intro ab s σ H D I h;refine wpAny_execs_cons (bQ (h1 ab s σ H D I h) fun f s1 q => ?_);cases f with
 | next => exact wpAny_execs_nil q
 | ret v => exact q
 | brk => exact q
 | cont => exact q
theorem Inv.quiet {ab : List (Addr × Obj)} {σ : St} {H : Hp} {s : Shared} (I : Inv X ab σ H s) : interactive X.env = false := by simp [interactive, I.ok.kind]
noncomputable def Ba (te : TE) : TS := fun D σ H => te σ H fun _ H1 => D.nx σ H1
theorem yx (he : PE X e te) (hs : autoParam (swapsWith e none pos.line X.env = pure false) bj._auto_1) : PS X (.Expr e pos) (Ba te) := by
 intro ab s σ H D I h;exact wpAny_Expr_any (bQ (he ab s σ H _ I h) fun v s1 ⟨x, H1, I1, r1, q1⟩ => ⟨σ, H1, I1, q1⟩) I.quiet hs
noncomputable def B5 (te : TE) : TS := fun D σ H => te σ H D.rt
theorem zP (he : PE X e te) : PS X (.Return (some e) pos) (B5 te) := by
 intro ab s σ H D I h;exact wpAny_Return_some (bQ (he ab s σ H _ I h) fun v s1 ⟨x, H1, I1, r1, q1⟩ => ⟨x, σ, H1, I1, r1, q1⟩)
noncomputable def Ca (c : TT) (t u : TS) : TS := fun D σ H => c σ H fun b H1 => if b = true then t D σ H1 else u D σ H1
theorem Bm {c : Expr} {a b : List Stmt} {tc : TT} (hc : PT X c tc) (ha : PSs X a t) (hb : PSs X b u) : PS X (.If c a b pos) (Ca tc t u) := by
 intro ab s σ H D I h;refine wpAny_If (bQ (hc ab s σ H _ I h) fun d s1 ⟨H1, I1, q1⟩ => ?_);cases d with
 | true => exact ha ab s1 σ H1 D I1 q1
 | false => exact hb ab s1 σ H1 D I1 q1
noncomputable def zr : TS := fun _ _ _ => False
theorem u4 {sts : List Stmt} : PSs X sts zr := fun _ _ _ _ _ _ h => h.elim
end
noncomputable abbrev TG := V -> St -> Hp -> (St -> Hp -> Prop) -> Prop
noncomputable abbrev nW := List V -> St -> Hp -> (St -> Hp -> Prop) -> Prop
noncomputable def PG (X : Cx) (target : Expr) (t : TG) : Prop :=
 ∀ (ab : List (Addr × Obj)) (s : Shared) (σ : St) (H : Hp) (v : V) (u : Value) (Q : St -> Hp -> Prop), Inv X ab σ H s -> RelV v u -> t v σ H Q ->
  wpAny (model X.prog X.w) X.A (assign target X.env u) (fun _ s' => ∃ σ' H', Inv X ab σ' H' s' /\ Q σ' H') X.xe s
noncomputable def sd (X : Cx) (ts : List Expr) (t : nW) : Prop :=
 ∀ (ab : List (Addr × Obj)) (s : Shared) (σ : St) (H : Hp) (vs : List V) (us : List Value) (Q : St -> Hp -> Prop), Inv X ab σ H s -> Vals vs us -> t vs σ H Q ->
  wpAny (model X.prog X.w) X.A (assignInOrder ((assignEach ts X.env).map (·.2)) us) (fun _ s' => ∃ σ' H', Inv X ab σ' H' s' /\ Q σ' H') X.xe s
noncomputable abbrev xf := V -> V -> V -> Hp -> (Hp -> Prop) -> Prop
noncomputable def AU (X : Cx) (t : xf) : Prop :=
 ∀ (ab : List (Addr × Obj)) (s : Shared) (σ : St) (H : Hp) (o i v : V) (ov iv u : Value) (Q : Hp -> Prop), Inv X ab σ H s -> RelV o ov -> RelV i iv -> RelV v u -> t o i v H Q ->
  wpAny (model X.prog X.w) X.A (setItem ov iv u) (fun _ s' => ∃ H', Inv X ab σ H' s' /\ Q H') X.xe s
section
variable {X : Cx} {pos : Pos}
noncomputable def nM (i : Nat) : TG := fun v σ H Q => Q (σ.set i (some v)) H
theorem yG {i : Nat} {x : Str} (hN : X.N.Nodup) (hi : X.N[i]? = some x) (hx : nX X.env.scope x) (hf : autoParam (X.fn x = true \/ X.env.scope.names.lookup x = some .local) n0._auto_1) : PG X (.Name x pos) (nM i) := by
 intro ab s σ H v u Q I r h;exact wpAny_assign_Name (qd I hN hi hx r (fun s' I' => ⟨_, H, I', h⟩) hf)
noncomputable def Cr : nW := fun vs σ H Q => vs = [] /\ Q σ H
noncomputable def BI (t : TG) (u : nW) : nW := fun vs σ H Q => ∃ v r, vs = v :: r /\ t v σ H fun σ' H' => u r σ' H' Q
theorem yF : sd X [] Cr := by
 intro ab s σ H vs us Q I r h;obtain ⟨e, h⟩ := h;subst e;cases r;exact assignInOrder_nil ⟨σ, H, I, h⟩
theorem wq {e : Expr} {es : List Expr} {t : TG} {u : nW} (h1 : PG X e t) (h2 : sd X es u)
  (hs : autoParam ((assignEach (e :: es) X.env).map (·.2) = assign e X.env :: (assignEach es X.env).map (·.2)) bj._auto_1) : sd X (e :: es) (BI t u) := by
 intro ab s σ H vs us Q I r h;obtain ⟨v, vr, e1, h⟩ := h;subst e1;cases r with
 | cons r rr =>
  rw [hs];refine assignInOrder_cons (bQ (h1 ab s σ H _ _ _ I r h) fun _ s1 ⟨σ1, H1, I1, q1⟩ => ?_);exact h2 ab s1 σ1 H1 _ _ Q I1 rr q1
noncomputable def Cq (K : PySem.W.Frag) (n : Nat) (t : nW) : TG := fun v σ H Q => ∃ a xs, v = .ref a /\ mq K H a xs /\ xs.length = n /\ t xs σ H Q
theorem zS {es : List Expr} {k : Nat} {t : nW} {n : Nat} (hc : X.calm = true) (h : sd X es t)
  (hn : autoParam ((assignEach es X.env).length = n) bj._auto_1) (hst : autoParam ((assignEach es X.env).findIdx? (·.1) = none) bj._auto_1) : PG X (.Tuple es k pos) (Cq X.K n t) := by
 intro ab s σ H v u Q I r hw;obtain ⟨a, xs, e1, hq, hl, hw⟩ := hw;subst e1;cases r;obtain ⟨its, rv, ht, hz⟩ := I.tuple hq;refine assign_Tuple_tuple (I.ok.hd hc) ht (by simp [hn, <- hl, rv.length]) hst fun h' hx => ?_
 have I1 : Inv X ab σ H { s with heap := h' } := I.kept (t' := s.toks) fun b o e => hx b o (Nat.ne_of_lt (Heap.lt_size e)) e
 exact h ab _ σ H xs _ Q I1 (by simpa using rv) hw
noncomputable def wU (to ti : TE) (t : xf) : TG := fun v σ H Q => to σ H fun o H1 => ti σ H1 fun i H2 => t o i v H2 fun H3 => Q σ H3
theorem zT {o i : Expr} {to ti : TE} {t : xf} (ho : PE X o to) (hi : PE X i ti) (hs : AU X t)
  (ha : autoParam (∀ v, assign (.Subscript o i pos) X.env v = (do
   let ov <- holding [v] (eval o X.env)
   let iv <- holding [v, ov] (eval i X.env)
   standAt pos
   holding [v, ov, iv] (setItem ov iv v)
   release [v, ov, iv] [])) kJ._auto_1) : PG X (.Subscript o i pos) (wU to ti t) := by
 intro ab s σ H v u Q I r h;rw [ha];refine wpAny_bind (wpAny_holding (bQ (ho ab s σ H _ I h) fun ov s1 ⟨x, H1, I1, r1, q1⟩ => ?_));refine wpAny_bind (wpAny_holding (bQ (hi ab s1 σ H1 _ I1 q1) fun iv s2 ⟨y, H2, I2, r2, q2⟩ => ?_));refine wpAny_bind (wpAny_standAt (wpAny_bind (wpAny_holding (bQ (hs ab s2 σ H2 x y v ov iv u _ I2 r1 r2 r q2) fun _ s3 ⟨H3, I3, q3⟩ => ?_))));exact wpAny_release ⟨σ, H3, I3, q3⟩
noncomputable def wa (te : TE) (g : TG) : TS := fun D σ H => te σ H fun x H1 => g x σ H1 D.nx
theorem zR {tg e : Expr} {te : TE} {g : TG} (he : PE X e te) (hg : PG X tg g) (hs : autoParam (swapsWithSole [tg] e pos.line X.env = pure false) bj._auto_1) (hw : autoParam (swappedStores [tg] e X.env = pure none) bj._auto_1)
  (h1 : autoParam ((assignEach [tg] X.env).map (·.2) = [assign tg X.env]) bj._auto_1) : PS X (.Assign [tg] e pos) (wa te g) := by
 intro ab s σ H D I h;refine wpAny_Assign_stores (bQ (he ab s σ H _ I h) fun v s1 ⟨x, H1, I1, r1, q1⟩ => ?_) hs hw;rw [h1];exact bQ (hg ab s1 σ H1 x v _ I1 r1 q1) fun _ s2 q => q
theorem zO {i : Nat} {x : Str} {e : Expr} {te : TE} {pos' : Pos} (hN : X.N.Nodup) (hi : X.N[i]? = some x) (hx : nX X.env.scope x) (he : PE X e te) (hs : autoParam (swapsWith e (some (.Name x pos')) pos.line X.env = pure false) bj._auto_1) (hf : autoParam (X.fn x = true \/ X.env.scope.names.lookup x = some .local) n0._auto_1) :
  PS X (.Assign [.Name x pos'] e pos) (wa te (nM i)) := by
 intro ab s σ H D I h;refine wpAny_Assign_Name (bQ (he ab s σ H _ I h) fun v s1 ⟨y, H1, I1, r1, q1⟩ => ?_) hs;exact qd I1 hN hi hx r1 (fun s2 I2 => ⟨_, H1, I2, q1⟩) hf
end
section
variable {X : Cx} {pos : Pos}
noncomputable def zo (c : TT) (tb : TS) : TS := fun D σ H => ∃ W : Nat -> St -> Hp -> Prop, (∃ m, W m σ H) /\ ∀ m σ H, W m σ H ->
 c σ H fun b H1 => if b = true then ∃ N : St -> Hp -> Prop, (∀ σ' H', N σ' H' -> ∃ m', m' < m /\ W m' σ' H') /\ tb { D with nx := N, ct := N, bk := D.nx } σ H1 else D.nx σ H1
theorem wl {c : Expr} {body : List Stmt} {tc : TT} {tb : TS} (hp : PassesOwn (model X.prog X.w) X.A X.env X.xe) (hc : PT X c tc) (hb : PSs X body tb) : PS X (.While c body [] pos) (zo tc tb) := by
 intro ab s σ H D I h;obtain ⟨W, ⟨m0, w0⟩, turn⟩ := h;refine wpAny_While (codeAny_whileLoop (fun n s' => ∃ σ' H', Inv X ab σ' H' s' /\ W n σ' H') ?_ m0 ⟨σ, H, I, w0⟩);rintro n s1 ⟨σ1, H1, I1, w1⟩;refine wpAny_passesOwn hp (bQ (hc ab s1 σ1 H1 _ I1 (turn n σ1 H1 w1)) fun b s2 ⟨H2, I2, q2⟩ => ?_);cases b with
 | true =>
  obtain ⟨N, hN, q2⟩ := q2;rw [if_pos rfl];refine wpAny_passesOwn hp (bQ (hb ab s2 σ1 H2 _ I2 q2) fun f s3 q3 => ?_);cases f with
  | next =>
   obtain ⟨σ3, H3, I3, n3⟩ := q3;obtain ⟨m', hm, w3⟩ := hN σ3 H3 n3;exact ⟨m', hm, σ3, H3, I3, w3⟩
  | cont =>
   obtain ⟨σ3, H3, I3, n3⟩ := q3;obtain ⟨m', hm, w3⟩ := hN σ3 H3 n3;exact ⟨m', hm, σ3, H3, I3, w3⟩
  | brk => exact q3
  | ret v => exact q3
 | false =>
  rw [if_neg Bool.false_ne_true];exact wpAny_execs_nil ⟨σ1, H2, I2, q2⟩
end
structure It where
 go : Nat -> Hp -> Prop
 yld : Nat -> Hp -> V -> Hp -> Prop
 stop : Nat -> Hp -> Prop
noncomputable def jh (X : Cx) (ab : List (Addr × Obj)) (H : Hp) (b : Addr) : Prop :=
 H b = none /\ b ≠ X.env.locals /\ b ∉ X.fs /\ (b ∈ X.ex \/ X.s₀.heap.objs.size <= b) /\ (∀ x c, X.env.cells.lookup x = some c -> c ≠ b) /\ ∀ p ∈ X.pn ++ ab, p.1 ≠ b
theorem Inv.fpOk {X : Cx} {ab : List (Addr × Obj)} {σ : St} {H H' : Hp} {s : Shared} {b : Addr} (I : Inv X ab σ H s) (hb : s.heap.objs.size <= b) (hn : H' b = none) : jh X ab H' b := by
 refine ⟨hn, Nat.ne_of_gt (Nat.lt_of_lt_of_le I.lt hb), I.nofs hb, .inr (Nat.le_trans I.sz hb), fun x c e z => ?_, fun p hp z => ?_⟩
 ·obtain ⟨v, q⟩ := I.cell x c e
  exact absurd (Nat.lt_of_lt_of_le q.lt (by rw [z]; exact hb)) (Nat.lt_irrefl _)
 ·exact absurd (Nat.lt_of_lt_of_le (Heap.lt_size (I.pin p hp).1) (by rw [z]; exact hb)) (Nat.lt_irrefl _)
structure uz (P : Program) (w : World) (K : PySem.W.Frag) (tg : Expr) (J : It) (fp : List Addr) (it : Addr) (tn : Nat -> Heap -> Prop) : Prop where
 mem : it ∈ fp
 obj : ∀ i h, tn i h -> ∀ b ∈ fp, ∃ o, h.get? b = some o /\ ∀ v, o.data ≠ .cell v
 keep : ∀ i h h', tn i h -> (∀ b ∈ fp, ∀ o, h.get? b = some o -> h'.get? b = some o) -> tn i h'
 item : ∀ (X : Cx), X.prog = P -> X.w = w -> X.K = K -> X.calm = true -> ∀ (i : Nat) (ab : List (Addr × Obj)) (s : Shared) (σ : St) (H : Hp) (E : Value -> Shared -> Prop), Inv X ab σ H s -> (∀ b ∈ fp, jh X ab H b) -> tn i s.heap -> J.go i H ->
  wpAny (model P w) X.A (pyNext (.ref it)) (fun r s1 => ∃ u, r = some u /\
   wpAny (model P w) X.A (letOwnedTupleGo tg (.ref it) u) (fun _ s2 => ∃ x H', Inv X ab σ H' s2 /\ RelV x u /\ J.yld i H x H' /\ tn (i + 1) s2.heap /\ ∀ b ∈ fp, H' b = none) E s1) E s
 done : ∀ (X : Cx), X.prog = P -> X.w = w -> X.K = K -> X.calm = true -> ∀ (i : Nat) (ab : List (Addr × Obj)) (s : Shared) (σ : St) (H : Hp) (E : Value -> Shared -> Prop), Inv X ab σ H s -> (∀ b ∈ fp, jh X ab H b) -> tn i s.heap -> J.stop i H ->
  wpAny (model P w) X.A (pyNext (.ref it)) (fun r s1 => r = none /\ Inv X ab σ H s1) E s
 self : ∀ (A : Around) (i : Nat) (s : Shared) (Q : Value -> Shared -> Prop) (E : Value -> Shared -> Prop), tn i s.heap -> Q (.ref it) s -> wpAny (model P w) A (pyIter (.ref it)) Q E s
noncomputable abbrev TI := St -> Hp -> (It -> Hp -> Prop) -> Prop
noncomputable def B1 (X : Cx) (ab : List (Addr × Obj)) (σ : St) (tg : Expr) (R : It -> Hp -> Prop) (itv : Value) (s2 : Shared) : Prop :=
 ∃ (it : Addr) (fp : List Addr) (tn : Nat -> Heap -> Prop) (J : It) (H' : Hp), itv = .ref it /\ Inv X ab σ H' s2 /\ uz X.prog X.w X.K tg J fp it tn /\ tn 0 s2.heap /\ (∀ b ∈ fp, jh X ab H' b) /\ R J H'
noncomputable def PI (X : Cx) (tg iter : Expr) (wi : TI) : Prop :=
 ∀ (ab : List (Addr × Obj)) (s : Shared) (σ : St) (H : Hp) (R : It -> Hp -> Prop), Inv X ab σ H s -> wi σ H R ->
  wpAny (model X.prog X.w) X.A (eval iter X.env) (fun v s1 => wpAny (model X.prog X.w) X.A (pyIter v) (B1 X ab σ tg R) X.xe s1) X.xe s
theorem xJ {M : Model} {A : Around} {E : Value -> Shared -> Prop} {s : Shared} {tg : Expr} {it : Addr} {u : Value} {o : Obj} {n : String} {vs : Array Value} {Q : Unit -> Shared -> Prop} (ho : s.heap.get? it = some o) (hc : o.cls = .type n) (hd : o.data = .fields vs)
  (hn : ["enumerate", "zip", "dict_itemiterator", "dict_reverseitemiterator", "odict_iterator", "itertools.zip_longest", "itertools.pairwise"].contains n = false) (hQ : Q () s) : wpAny M A (letOwnedTupleGo tg (.ref it) u) Q E s := by
 unfold letOwnedTupleGo;cases tg <;> first
  | exact wpAny_pure hQ
  | (cases u <;> first
    | exact wpAny_pure hQ
    | (refine wpAny_bind (wpAny_load ho ?_)
       rw [hc, hd];show wpAny M A (if (["enumerate", "zip", "dict_itemiterator", "dict_reverseitemiterator", "odict_iterator", "itertools.zip_longest", "itertools.pairwise"].contains n && vs[0]? == some (rawInt _)) = true then _ else _) Q E s;rw [if_neg (by intro h; rw [hn, Bool.false_and] at h; cases h)];exact wpAny_pure hQ))
noncomputable def AX (K : PySem.W.Frag) (a : Addr) : It :=
 ⟨fun i H => ∃ xs x, fg K H a xs /\ xs[i]? = some x, fun i H x H' => H' = H /\ ∀ xs, fg K H a xs -> xs[i]? = some x, fun i H => ∃ xs, fg K H a xs /\ xs.length <= i⟩
noncomputable def tL (lo : Int) (n : Nat) : It := ⟨fun i _ => i < n, fun i H x H' => H' = H /\ x = .int (lo + i), fun i _ => n <= i⟩
theorem uI {P : Program} {w : World} {K : PySem.W.Frag} {tg : Expr} (a it : Addr) : uz P w K tg (AX K a) [it] it (fun i h => h.IsListIter it a i) where
 mem := by simp
 obj := fun i h st b hb => by
  have e : b = it := by simpa using hb
  subst e;obtain ⟨o, e, c, d⟩ := st;exact ⟨o, e, fun v z => by rw [d] at z; cases z⟩
 keep := fun i h h' st k => st.at fun o e => k it (by simp) o e
 item := by
  intro X hP hw hK hc i ab s σ H E I hf st hg;subst hP hw hK;obtain ⟨xs, x, hq, hx⟩ := hg;obtain ⟨its, rv, p, hz⟩ := I.list hq;obtain ⟨u, hu, ru⟩ := rv.get hx;obtain ⟨f0, f1, f2, f3, f4, f5⟩ := hf it (by simp);refine wpAny_pyNext_list_item st p.isList (x := u) (by simpa using hu) fun h' st' sb => ?_
  have I1 : Inv X ab σ H { s with heap := h' } := I.turned (t' := s.toks) (fun b o hb e => (sb.2 b hb).trans e) f0 f1 f3 f4 f5;obtain ⟨o, e, c, d⟩ := id st';exact ⟨u, rfl, xJ (s := { s with heap := h' }) e c d dC ⟨x, H, I1, ru, ⟨rfl, fun ys hy => by rw [I.list_inj hy hq]; exact hx⟩, st', fun b hb => (hf b hb).1⟩⟩
 done := by
  intro X hP hw hK hc i ab s σ H E I hf st hg;subst hP hw hK;obtain ⟨xs, hq, hx⟩ := hg;obtain ⟨its, rv, p, hz⟩ := I.list hq;obtain ⟨f0, f1, f2, f3, f4, f5⟩ := hf it (by simp);have hl := rv.length;exact wpAny_pyNext_list_end (I.ok.hd hc) st p.isList (by simp; omega) fun h' eb => ⟨rfl, I.turned (t' := s.toks) (fun b o hb e => eb b o hb e) f0 f1 f3 f4 f5⟩
 self := fun _ _ _ _ _ st h => wpAny_pyIter_listiter st h
theorem tQ {P : Program} {w : World} {K : PySem.W.Frag} {tg : Expr} (it : Addr) (lo : Int) (n : Nat) : uz P w K tg (tL lo n) [it] it (fun i h => IsRangeIter h it (lo + (i : Nat) * 1) ((n : Int) - (i : Nat)) 1) where
 mem := by simp
 obj := fun i h st b hb => by
  have e : b = it := by simpa using hb
  subst e;exact ⟨_, st, fun v z => by
   have z' : Data.fields _ = Data.cell v := z;cases z'⟩
 keep := fun i h h' st k => k it (by simp) _ st
 item := by
  intro X hP hw hK hc i ab s σ H E I hf st hg;subst hP hw hK;obtain ⟨f0, f1, f2, f3, f4, f5⟩ := hf it (by simp);have W := Walks.range (prog := X.prog) (w := X.w) (I.ok.hd hc) it lo 1 n;refine W.item i s _ _ hg st fun v h' tk hv st' kk => ?_
  obtain ⟨t, rfl⟩ := hv;have I1 : Inv X ab σ H { s with heap := h', toks := tk } := I.turned (fun b o hb e => kk b o (by simpa using hb) e) f0 f1 f3 f4 f5;refine ⟨_, rfl, xJ (s := { s with heap := h', toks := tk }) (n := "range_iterator") st' rfl rfl dC ⟨.int (lo + i), H, I1, ⟨t, ?_⟩, ⟨rfl, rfl⟩, st', fun b hb => (hf b hb).1⟩⟩;rw [Int.mul_one]
 done := by
  intro X hP hw hK hc i ab s σ H E I hf st hg;subst hP hw hK;obtain ⟨f0, f1, f2, f3, f4, f5⟩ := hf it (by simp);exact wpAny_pyNext_range_end (I.ok.hd hc) st (by have : n <= i := hg; omega) fun h' eb => ⟨rfl, I.turned (t' := s.toks) (fun b o hb e => eb b o hb e) f0 f1 f3 f4 f5⟩
 self := fun _ _ _ _ _ st h => wpAny_pyIter_rangeiter st h
section
variable {X : Cx} {tg : Expr}
noncomputable def BH (K : PySem.W.Frag) (tl : TE) : TI := fun σ H R => tl σ H fun x H1 => ∃ a, x = .ref a /\ (∃ xs, fg K H1 a xs) /\ R (AX K a) H1
theorem yE {l : Expr} {tl : TE} (hl : PE X l tl) : PI X tg l (BH X.K tl) := by
 intro ab s σ H R I h;refine bQ (hl ab s σ H _ I h) fun v s1 ⟨x, H1, I1, r1, q1⟩ => ?_
 obtain ⟨a, e, ⟨xs, hq⟩, q⟩ := q1;subst e;cases r1;obtain ⟨its, rv, p, hz⟩ := I1.list hq;refine wpAny_pyIter_list p.isList ?_;refine ⟨s1.heap.objs.size, [s1.heap.objs.size], _, _, H1, rfl, I1.kept (t' := s1.toks) fun b o e => Heap.get?_push_of_some _ e, uI a _, ⟨_, Heap.get?_push_size _ rfl, rfl, rfl⟩, fun b hb => ?_, q⟩;have e : b = s1.heap.objs.size := by simpa using hb
 subst e;exact I1.fpOk (Nat.le_refl _) (I1.hok.fresh (Nat.le_refl _))
theorem qp {ab : List (Addr × Obj)} {σ : St} {H : Hp} {s : Shared} {R : It -> Hp -> Prop} {E : Value -> Shared -> Prop} {lo hi : Int} {t u v : Tok} {tk : Nat} (I : Inv X ab σ H s) (h1 : -(2 ^ 62) <= lo) (h2 : lo < 2 ^ 62) (h3 : -(2 ^ 62) <= hi) (h4 : hi < 2 ^ 62)
  (q : R (tL lo (hi - lo).toNat) H) : wpAny (model X.prog X.w) X.A (pyIter (.ref s.heap.objs.size)) (B1 X ab σ tg R) E { s with heap := s.heap.push { cls := .type "range", data := .fields #[.int lo t, .int hi u, .int 1 v] }, toks := tk } := by
 refine wpAny_pyIter_range (IsRange.new ..) (small_one h1 h2 h3 h4) ?_;have I1 : Inv X ab σ H { s with heap := s.heap.push { cls := .type "range", data := .fields #[.int lo t, .int hi u, .int 1 v] }, toks := tk } := I.kept fun b o e => Heap.get?_push_of_some _ e
 refine ⟨(s.heap.push { cls := .type "range", data := .fields #[.int lo t, .int hi u, .int 1 v] }).objs.size, [(s.heap.push { cls := .type "range", data := .fields #[.int lo t, .int hi u, .int 1 v] }).objs.size], _, _, H, rfl,
  I1.kept (t' := tk) fun b o e => Heap.get?_push_of_some _ e, tQ _ lo (hi - lo).toNat, ?_, fun b hb => ?_, q⟩
 ·have e1 : lo + ((0 : Nat) : Int) * 1 = lo := by simp
  have e2 : (((hi - lo).toNat : Nat) : Int) - ((0 : Nat) : Int) = Builtin.Range.rangeSize lo hi 1 := by rw [rangeSize_one]; split <;> omega
  show IsRangeIter _ _ (lo + ((0 : Nat) : Int) * 1) ((((hi - lo).toNat : Nat) : Int) - ((0 : Nat) : Int)) 1;rw [e1, e2];exact Heap.get?_push_size _ rfl
 ·have e : b = (s.heap.push { cls := .type "range", data := .fields #[.int lo t, .int hi u, .int 1 v] }).objs.size := by simpa using hb
  subst e;exact I1.fpOk (Nat.le_refl _) (I1.hok.fresh (Nat.le_refl _))
noncomputable def BG (ta : TA) : TI := fun σ H R => ta σ H fun vs H1 => ∃ j : Int, vs = [.int j] /\ -(2 ^ 62) <= j /\ j < 2 ^ 62 /\ R (tL 0 j.toNat) H1
noncomputable def BF (ta : TA) : TI := fun σ H R => ta σ H fun vs H1 => ∃ i j : Int, vs = [.int i, .int j] /\ (-(2 ^ 62) <= i /\ i < 2 ^ 62 /\ -(2 ^ 62) <= j /\ j < 2 ^ 62) /\ R (tL i (j - i).toNat) H1
theorem va {a : Expr} {ta : TA} {p pos : Pos} (hg : Gl X "range") (hm : X.mg "range" = none) (ha : PA X [a] ta) (hs : autoParam (starEach [a] X.env = [(false, eval a X.env)]) bj._auto_1) : PI X tg (.Call (.Name "range" p) [a] [] pos) (BG ta) := by
 intro ab s σ H R I h;refine Call_ (lf I hg hm boot_range (PyProof.Rows.callWith_type1 (bQ (ha pos ab s σ H _ I h) fun us s1 ⟨vs, H1, I1, r1, q1⟩ => ?_) hs rfl));obtain ⟨j, e, q1, q2, q⟩ := q1;subst e;cases r1 with
 | cons r rr =>
  cases rr;obtain ⟨t, rfl⟩ := r;exact call_range_1 (qp I1 oM oM q1 q2 (by simpa using q))
theorem u9 {a b : Expr} {ta : TA} {p pos : Pos} (hg : Gl X "range") (hm : X.mg "range" = none) (ha : PA X [a, b] ta) (hs : autoParam (starEach [a, b] X.env = [(false, eval a X.env), (false, eval b X.env)]) bj._auto_1) (hs2 : autoParam (starEach [b] X.env = [(false, eval b X.env)]) bj._auto_1) :
  PI X tg (.Call (.Name "range" p) [a, b] [] pos) (BF ta) := by
 intro ab s σ H R I h;refine Call_ (lf I hg hm boot_range (PyProof.Rows.callWith_type1 (bQ (ha pos ab s σ H _ I h) fun us s1 ⟨vs, H1, I1, r1, q1⟩ => ?_) (by rw [hs, hs2]) (by rw [hs2]; rfl)));obtain ⟨i, j, e, ⟨q1, q2, q3, q4⟩, q⟩ := q1;subst e;cases r1 with
 | cons r rr =>
  cases rr with
  | cons r' rr =>
   cases rr;obtain ⟨t, rfl⟩ := r;obtain ⟨t', rfl⟩ := r';exact call_range_2 (qp I1 q1 q2 q3 q4 q)
noncomputable def Cc (wi : TI) (g : TG) (tb : TS) : TS := fun D σ H => wi σ H fun J H1 => ∃ W : Nat -> Nat -> St -> Hp -> Prop, (∃ m, W 0 m σ H1) /\ ∀ i m σ H, W i m σ H ->
 (J.stop i H /\ D.nx σ H) \/ (J.go i H /\ ∃ N : St -> Hp -> Prop, (∀ σ' H', N σ' H' -> ∃ m', m' < m /\ W (i + 1) m' σ' H') /\ ∀ x H', J.yld i H x H' -> g x σ H' fun σ2 H2 => tb { D with nx := N, ct := N, bk := D.nx } σ2 H2)
noncomputable def kW (fp : List Addr) (h : Heap) : List (Addr × Obj) := fp.filterMap fun b => (h.get? b).map fun o => (b, o)
theorem iI {fp : List Addr} {h : Heap} {b : Addr} {o : Obj} (hb : b ∈ fp) (e : h.get? b = some o) : (b, o) ∈ kW fp h := List.mem_filterMap.mpr ⟨b, hb, by rw [e]; rfl⟩
theorem vh {fp : List Addr} {h : Heap} {p : Addr × Obj} (hp : p ∈ kW fp h) : p.1 ∈ fp /\ h.get? p.1 = some p.2 := by
 obtain ⟨b, hb, e⟩ := List.mem_filterMap.mp hp;cases q : h.get? b with
 | none => rw [q] at e; cases e
 | some o =>
  rw [q] at e;have e' : (b, o) = p := Option.some.inj e;subst e';exact ⟨hb, q⟩
theorem Inv.pinned {ab : List (Addr × Obj)} {σ : St} {H : Hp} {s : Shared} {fp : List Addr} (I : Inv X ab σ H s) (hf : ∀ b ∈ fp, jh X ab H b) (ho : ∀ b ∈ fp, ∃ o, s.heap.get? b = some o /\ ∀ v, o.data ≠ .cell v) : Inv X (ab ++ kW fp s.heap) σ H s :=
 I.pins_of fun p hp => (List.mem_append.mp hp).elim (fun z => I.pin p (List.mem_append_right _ z)) fun z => by
  obtain ⟨hb, e⟩ := vh z;obtain ⟨f0, f1, f2, _⟩ := hf p.1 hb;obtain ⟨o, e', d⟩ := ho p.1 hb;rw [e] at e'; cases e';exact ⟨e, f0, f1, f2, d⟩
theorem Inv.unpinned {ab pl : List (Addr × Obj)} {σ : St} {H : Hp} {s : Shared} (I : Inv X (ab ++ pl) σ H s) : Inv X ab σ H s := I.pins_of fun p hp => I.pin p (List.mem_append_right _ (List.mem_append_left _ hp))
theorem zQ {iter : Expr} {body : List Stmt} {wi : TI} {g : TG} {tb : TS} {pos : Pos} (hp : PassesOwn (model X.prog X.w) X.A X.env X.xe) (hc : X.calm = true) (hi : PI X tg iter wi) (hg : PG X tg g) (hb : PSs X body tb)
  (hs : autoParam (∀ x, foldedSetIterable iter X.env x = pure x) kJ._auto_1) : PS X (.For tg iter body [] pos) (Cc wi g tb) := by
 intro ab s σ H D I h;refine wpAny_For (bQ (hi ab s σ H _ I h) fun v s1 h1 => bQ h1 fun itv s2 h2 => ?_) hs;obtain ⟨it, fp, tn, J, H2, e, I2, T, st2, f2, W, ⟨m0, w0⟩, turn⟩ := h2;subst e
 -- what stays true of the iterator's objects through the loop
 have stat : ∀ {H' : Hp}, (∀ b ∈ fp, H' b = none) -> ∀ b ∈ fp, jh X ab H' b := fun hn b hb => ⟨hn b hb, (f2 b hb).2⟩
 refine codeAny_forLoop_any (fun n s' => ∃ i σ' H', Inv X ab σ' H' s' /\ tn i s'.heap /\ (∀ b ∈ fp, H' b = none) /\ W i n σ' H') ?_ m0 ⟨0, σ, H2, I2, st2, fun b hb => (f2 b hb).1, w0⟩;rintro n s3 ⟨i, σ3, H3, I3, st3, fr3, w3⟩;rcases turn i n σ3 H3 w3 with ⟨stop, qn⟩ | ⟨go, N, hN, step⟩
 ·refine wpAny_passesOwn hp (bQ (T.done X rfl rfl rfl hc i ab s3 σ3 H3 X.xe I3 (stat fr3) st3 stop) fun r s4 ⟨hr, I4⟩ => ?_)
  subst hr;exact wpAny_execs_nil ⟨σ3, H3, I4, qn⟩
 ·refine wpAny_passesOwn hp (bQ (T.item X rfl rfl rfl hc i ab s3 σ3 H3 X.xe I3 (stat fr3) st3 go) fun r s4 ⟨u, hr, h4⟩ => ?_)
  subst hr;refine wpAny_passesOwn hp (bQ h4 fun _ s5 ⟨x, H5, I5, r5, y5, st5, fr5⟩ => ?_);have I5' := I5.pinned (stat fr5) (T.obj _ _ st5);refine wpAny_passesOwn hp (bQ (hg _ s5 σ3 H5 x u _ I5' r5 (step x H5 y5)) fun _ s6 ⟨σ6, H6, I6, q6⟩ => ?_);refine wpAny_passesOwn hp (bQ (hb _ s6 σ6 H6 _ I6 q6) fun f s7 q7 => ?_);have again : ∀ {σ7 : St} {H7 : Hp}, Inv X (ab ++ kW fp s5.heap) σ7 H7 s7 -> N σ7 H7 -> ∃ m, m < n /\ ∃ i σ' H', Inv X ab σ' H' s7 /\ tn i s7.heap /\ (∀ b ∈ fp, H' b = none) /\ W i m σ' H' := fun {σ7 H7} I7 n7 => by
   obtain ⟨m', hm, w7⟩ := hN σ7 H7 n7;refine ⟨m', hm, i + 1, σ7, H7, I7.unpinned, T.keep _ _ _ st5 fun b hb o e => (I7.pin (b, o) (List.mem_append_right _ (List.mem_append_right _ (iI hb e)))).1, fun b hb => ?_, w7⟩;obtain ⟨o, e, d⟩ := T.obj _ _ st5 b hb;exact (I7.pin (b, o) (List.mem_append_right _ (List.mem_append_right _ (iI hb e)))).2.1
  cases f with
  | next => obtain ⟨σ7, H7, I7, n7⟩ := q7; exact again I7 n7
  | cont => obtain ⟨σ7, H7, I7, n7⟩ := q7; exact again I7 n7
  | brk => obtain ⟨σ7, H7, I7, q7⟩ := q7; exact ⟨σ7, H7, I7.unpinned, q7⟩
  | ret v => obtain ⟨x7, σ7, H7, I7, r7, q7⟩ := q7; exact ⟨x7, σ7, H7, I7.unpinned, r7, q7⟩
end
noncomputable abbrev R2 := V -> V -> Hp -> VK -> Prop
noncomputable def fh (X : Cx) (f : Value -> Value -> Sem Value) (r : R2) : Prop :=
 ∀ (ab : List (Addr × Obj)) (s : Shared) (σ : St) (H : Hp) (x y : V) (v u : Value) (Q : VK), Inv X ab σ H s -> RelV x v -> RelV y u -> r x y H Q ->
  wpAny (model X.prog X.w) X.A (f v u) (EP X ab σ Q) X.xe s
noncomputable def AR (X : Cx) (f : Value -> Sem Value) (r : V -> Hp -> VK -> Prop) : Prop :=
 ∀ (ab : List (Addr × Obj)) (s : Shared) (σ : St) (H : Hp) (x : V) (v : Value) (Q : VK), Inv X ab σ H s -> RelV x v -> r x H Q ->
  wpAny (model X.prog X.w) X.A (f v) (EP X ab σ Q) X.xe s
noncomputable def CallR (X : Cx) (f : Value) (r : List V -> Hp -> VK -> Prop) : Prop :=
 ∀ (ab : List (Addr × Obj)) (s : Shared) (σ : St) (H : Hp) (xs : List V) (us : List Value) (Q : VK), Inv X ab σ H s -> Vals xs us -> r xs H Q ->
  wpAny (model X.prog X.w) X.A (call f us) (EP X ab σ Q) X.xe s
noncomputable def kA (r : R2) (ta tb : TE) : TE := fun σ H Q => ta σ H fun x H1 => tb σ H1 fun y H2 => r x y H2 Q
noncomputable def Cy (r : V -> Hp -> VK -> Prop) (ta : TE) : TE := fun σ H Q => ta σ H fun x H1 => r x H1 Q
noncomputable def rI (C : Int -> Int -> Prop) (g : Int -> Int -> V) : R2 := fun x y H Q => ∃ i j, x = .int i /\ y = .int j /\ C i j /\ Q (g i j) H
noncomputable def lY (g : Int -> Int -> V) : R2 := fun x y H Q => ∃ i j, x = .int i /\ y = .int j /\ Q (g i j) H
noncomputable def rU (g : Int -> V) : V -> Hp -> VK -> Prop := fun x H Q => ∃ i, x = .int i /\ Q (g i) H
section
variable {X : Cx} {a b c : Expr} {ta tb tc : TE} {pos : Pos}
theorem xb (ha : PE X a ta) (hb : PE X b tb) {ab : List (Addr × Obj)} {s : Shared} {σ : St} {H : Hp} {R : V -> V -> Hp -> Prop} (I : Inv X ab σ H s)
  (h : ta σ H fun x H1 => tb σ H1 fun y H2 => R x y H2) {Q : Value -> Shared -> Prop} {f : Value -> Value -> Sem Value}
  (hf : ∀ v u s2 x y H2, Inv X ab σ H2 s2 -> RelV x v -> RelV y u -> R x y H2 -> wpAny (model X.prog X.w) X.A (f v u) Q X.xe s2) :
  wpAny (model X.prog X.w) X.A (eval a X.env) (fun v s₁ => wpAny (model X.prog X.w) X.A (eval b X.env) (fun u s₂ => wpAny (model X.prog X.w) X.A (f v u) Q X.xe s₂) X.xe s₁) X.xe s := by
 refine bQ (ha ab s σ H _ I h) fun v s1 ⟨x, H1, I1, r1, q1⟩ => ?_
 refine bQ (hb ab s1 σ H1 _ I1 q1) fun u s2 ⟨y, H2, I2, r2, q2⟩ => ?_
 exact hf v u s2 x y H2 I2 r1 r2 q2
theorem p5 {op : Operator} {r : R2} (ho : fh X (binaryOp op) r) (ha : PE X a ta) (hb : PE X b tb) : PE X (.BinOp a op b pos) (kA r ta tb) := by
 intro ab s σ H Q I h;exact wpAny_BinOp (xb ha hb I h fun v u s2 x y H2 I2 rx ry q => ho ab s2 σ H2 x y v u Q I2 rx ry q)
theorem Bo {op : UnaryOp} {r : V -> Hp -> VK -> Prop} (ho : AR X (unaryOp op) r) (ha : PE X a ta) : PE X (.UnaryOp op a pos) (Cy r ta) := by
 intro ab s σ H Q I h;exact UnaryOp_ (bQ (ha ab s σ H _ I h) fun v s1 ⟨x, H1, I1, r1, q1⟩ => ho ab s1 σ H1 x v Q I1 r1 q1)
theorem sI {f : Value -> Value -> Sem Value} {C : Int -> Int -> Prop} {g : Int -> Int -> Int}
  (rule : ∀ (i j : Int) (t u : Tok) (s : Shared) (Q : Value -> Shared -> Prop) (E : Value -> Shared -> Prop), C i j -> Q (.int (g i j) s.toks) { s with toks := s.toks + 1 } -> wpAny (model X.prog X.w) X.A (f (.int i t) (.int j u)) Q E s) :
  fh X f (rI C fun i j => .int (g i j)) := by
 intro ab s σ H x y v u Q I rx ry h;obtain ⟨i, j, rfl, rfl, hc, q⟩ := h;obtain ⟨t, rfl⟩ := rx;obtain ⟨t', rfl⟩ := ry;exact rule i j t t' s _ _ hc ⟨.int (g i j), H, I.tok _, ⟨_, rfl⟩, q⟩
theorem t8 {f : Value -> Value -> Sem Value} {g : Int -> Int -> Int}
  (rule : ∀ (i j : Int) (t u : Tok) (s : Shared) (Q : Value -> Shared -> Prop) (E : Value -> Shared -> Prop), Q (.int (g i j) s.toks) { s with toks := s.toks + 1 } -> wpAny (model X.prog X.w) X.A (f (.int i t) (.int j u)) Q E s) :
  fh X f (lY fun i j => .int (g i j)) := by
 intro ab s σ H x y v u Q I rx ry h;obtain ⟨i, j, rfl, rfl, q⟩ := h;obtain ⟨t, rfl⟩ := rx;obtain ⟨t', rfl⟩ := ry;exact rule i j t t' s _ _ ⟨.int (g i j), H, I.tok _, ⟨_, rfl⟩, q⟩
theorem Ag {f : Value -> Value -> Sem Value} {g : Int -> Int -> Bool}
  (rule : ∀ (i j : Int) (t u : Tok) (s : Shared) (Q : Value -> Shared -> Prop) (E : Value -> Shared -> Prop), Q (.bool (g i j)) s -> wpAny (model X.prog X.w) X.A (f (.int i t) (.int j u)) Q E s) :
  fh X f (lY fun i j => .bl (g i j)) := by
 intro ab s σ H x y v u Q I rx ry h;obtain ⟨i, j, rfl, rfl, q⟩ := h;obtain ⟨t, rfl⟩ := rx;obtain ⟨t', rfl⟩ := ry;exact rule i j t t' s _ _ ⟨.bl (g i j), H, I, rfl, q⟩
noncomputable def uD (i j : Int) : Prop := 0 <= j /\ j <= 1000000 /\ i.natAbs < 2 ^ 64
noncomputable def CMul (i j : Int) : Prop := (-(2 ^ 64) < i /\ i < 2 ^ 64) \/ (-(2 ^ 64) < j /\ j < 2 ^ 64)
theorem CMul.ok {i j : Int} (h : CMul i j) : IntMulOk i j := by
 rcases h with ⟨h1, h2⟩ | ⟨h1, h2⟩
 ·exact .of_left (intBits_le_64 h1 h2)
 ·exact .of_right (intBits_le_64 h1 h2)
theorem tP (k : Nat) : (0 : Int) <= 2 ^ k := by
 rw [two_pow_cast];exact Int.natCast_nonneg _
theorem Af : fh X (binaryOp .Add) (lY fun i j => .int (i + j)) := t8 fun _ _ _ _ _ _ _ q => add_int q
theorem z7 : fh X (binaryOp .Sub) (lY fun i j => .int (i - j)) := t8 fun _ _ _ _ _ _ _ q => sub_int q
theorem Ab : fh X (binaryOp .Mult) (rI CMul fun i j => .int (i * j)) := sI fun _ _ _ _ _ _ _ hc q => mul_int q hc.ok
theorem Ac : fh X (binaryOp .Mod) (rI (fun _ j => 0 < j) fun i j => .int (i % j)) := sI fun i j _ _ _ _ _ hc q => by
 have h1 : (0 : Int) < j := hc;exact mod_int' oM (by rw [Int.fmod_eq_emod_of_nonneg i oM]; exact q)
theorem Aa : fh X (binaryOp .Pow) (rI uD fun i j => .int (i ^ j.toNat)) := sI fun _ _ _ _ _ _ _ hc q => pow_int_small hc.1 hc.2.1 hc.2.2 q
theorem z9 : fh X (binaryOp .LShift) (rI uD fun i j => .int (i * 2 ^ j.toNat)) := sI fun _ _ _ _ _ _ _ hc q => lshift_int_small hc.1 hc.2.1 hc.2.2 q
theorem z8 : fh X (binaryOp .RShift) (rI (fun _ j => 0 <= j) fun i j => .int (i / 2 ^ j.toNat)) := sI fun i j _ _ _ _ _ hc q =>
 rshift_int hc (by rw [Int.fdiv_eq_ediv_of_nonneg i (tP _)]; exact q)
theorem Ae : fh X (binaryOp .BitAnd) (lY fun i j => .int (Builtin.bitAnd i j)) := t8 fun _ _ _ _ _ _ _ q => and_int q
theorem Bu : fh X (binaryOp .BitOr) (lY fun i j => .int (Builtin.bitOr i j)) := t8 fun _ _ _ _ _ _ _ q => or_int q
theorem Cw {f : Value -> Sem Value} {g : Int -> Int}
  (rule : ∀ (i : Int) (t : Tok) (s : Shared) (Q : Value -> Shared -> Prop) (E : Value -> Shared -> Prop), Q (.int (g i) s.toks) { s with toks := s.toks + 1 } -> wpAny (model X.prog X.w) X.A (f (.int i t)) Q E s) :
  AR X f (rU fun i => .int (g i)) := by
 intro ab s σ H x v Q I rx h;obtain ⟨i, rfl, q⟩ := h;obtain ⟨t, rfl⟩ := rx;exact rule i t s _ _ ⟨.int (g i), H, I.tok _, ⟨_, rfl⟩, q⟩
theorem zm : AR X (unaryOp .USub) (rU fun i => .int (-i)) := Cw fun _ _ _ _ _ q => neg_int q
end
noncomputable def scal : V -> V -> Bool
 | .non, .non => true | .non, .int _ => true | .int _, .non => true | .non, .bl _ => true | .bl _, .non => true | .non, .str _ => true | .str _, .non => true
 | .int _, .int _ => true | .bl _, .bl _ => true | .str _, .str _ => true | .byt _, .byt _ => true
 | .int _, .str _ => true | .str _, .int _ => true | .bl _, .str _ => true | .str _, .bl _ => true
 | _, _ => false
section
variable {X : Cx} {a b c : Expr} {ta tb tc : TE} {pos : Pos}
theorem Bv : fh X (compareOp .Lt) (lY fun i j => .bl (decide (i < j))) := Ag fun _ _ _ _ _ _ _ q => lt_int q
theorem Bw : fh X (compareOp .GtE) (lY fun i j => .bl (decide (j <= i))) := Ag fun _ _ _ _ _ _ _ q => ge_int q
theorem bD (b : Expr) {op : CmpOp} (h : autoParam (op ≠ .In) cz._auto_1) (h2 : autoParam (op ≠ .NotIn) cz._auto_1) : behindInMarks op b = false := by
 have e1 : (op == CmpOp.In) = false := by cases op <;> first | rfl | exact absurd rfl h
 have e2 : (op == CmpOp.NotIn) = false := by cases op <;> first | rfl | exact absurd rfl h2
 cases b <;> simp [behindInMarks, e1, e2]
theorem ot {op : CmpOp} {r : R2} (ho : fh X (compareOp op) r) (ha : PE X a ta) (hb : PE X b tb) (hm : behindInMarks op b = false) : PE X (.Compare a [op] [b] pos) (kA r ta tb) := by
 intro ab s σ H Q I h;exact wpAny_Compare1 (xb ha hb I h fun v u s2 x y H2 I2 rx ry q => ho ab s2 σ H2 x y v u Q I2 rx ry q) hm
noncomputable def A7 (t : TE) : TT := fun σ H Q => t σ H fun x H' => ∃ k, x = .bl k /\ Q k H'
theorem lE {op : CmpOp} {r : R2} (ho : fh X (compareOp op) r) (ha : PE X a ta) (hb : PE X b tb) (hm : behindInMarks op b = false) : PT X (.Compare a [op] [b] pos) (A7 (kA r ta tb)) := by
 intro ab s σ H Q I h;refine wpAny_isTrue_Compare1 (bQ (ha ab s σ H _ I h) fun v s1 ⟨x, H1, I1, r1, q1⟩ => bQ (hb ab s1 σ H1 _ I1 q1) fun u s2 ⟨y, H2, I2, r2, q2⟩ =>
  bQ (ho ab s2 σ H2 x y v u _ I2 r1 r2 q2) fun c s3 ⟨z, H3, I3, r3, k, e, q3⟩ => ?_) hm
 subst e;cases r3;exact wpAny_truthy_bool ⟨H3, I3, q3⟩
theorem jW : (sizeLine : Nat) < 2 ^ 63 := by rw [sizeLine_eq]; decide
theorem gD {x : V} {us : List Value} (r : Vals [x] us) : ∃ u, us = [u] /\ RelV x u := by
 cases r with
 | cons r1 r2 => cases r2; exact ⟨_, rfl, r1⟩
theorem tO {x y : V} {us : List Value} (r : Vals [x, y] us) : ∃ u w', us = [u, w'] /\ RelV x u /\ RelV y w' := by
 cases r with
 | cons r1 r2 =>
  cases r2 with
  | cons r3 r4 => cases r4; exact ⟨_, _, rfl, r1, r3⟩
theorem xa : CallR X (.builtin "abs") (fun xs H Q => ∃ i, xs = [.int i] /\ Q (.int (if i < 0 then -i else i)) H) := by
 intro ab s σ H xs us Q I r h;obtain ⟨i, rfl, q⟩ := h;obtain ⟨u, rfl, t, rfl⟩ := gD r;exact call_abs_int fun u tk => ⟨.int (if i < 0 then -i else i), H, I.tok _, ⟨_, rfl⟩, q⟩
theorem vR (hc : X.calm = true) : CallR X (.builtin "max") (fun xs H Q => ∃ i j, xs = [.int i, .int j] /\ Q (.int (if j > i then j else i)) H) := by
 intro ab s σ H xs us Q I r h;obtain ⟨i, j, rfl, q⟩ := h;obtain ⟨u, w', rfl, ⟨t, rfl⟩, ⟨t', rfl⟩⟩ := tO r;refine max_two_ints (I.ok.hd hc) fun h' tk k => ⟨_, H, I.kept k, ?_, q⟩
 by_cases hj : j > i
 ·rw [if_pos hj, if_pos hj]; exact ⟨_, rfl⟩
 ·rw [if_neg hj, if_neg hj]; exact ⟨_, rfl⟩
theorem vQ (hc : X.calm = true) : CallR X (.builtin "min") (fun xs H Q => ∃ i j, xs = [.int i, .int j] /\ Q (.int (if j < i then j else i)) H) := by
 intro ab s σ H xs us Q I r h;obtain ⟨i, j, rfl, q⟩ := h;obtain ⟨u, w', rfl, ⟨t, rfl⟩, ⟨t', rfl⟩⟩ := tO r;refine min_two_ints (I.ok.hd hc) fun h' tk k => ⟨_, H, I.kept k, ?_, q⟩
 by_cases hj : j < i
 ·rw [if_pos hj, if_pos hj]; exact ⟨_, rfl⟩
 ·rw [if_neg hj, if_neg hj]; exact ⟨_, rfl⟩
theorem vT : CallR X (.type "int") (fun xs H Q => (∃ i, xs = [.int i] /\ Q (.int i) H) \/ ∃ k, xs = [.bl k] /\ Q (.int (if k then 1 else 0)) H) := by
 intro ab s σ H xs us Q I r h;rcases h with ⟨i, rfl, q⟩ | ⟨k, rfl, q⟩
 ·obtain ⟨u, rfl, t, rfl⟩ := gD r
  exact call_int_int ⟨.int i, H, I, ⟨_, rfl⟩, q⟩
 ·obtain ⟨u, rfl, r1⟩ := gD r
  cases r1;exact call_int_bool ⟨.int (if k then 1 else 0), H, I.tok _, ⟨_, rfl⟩, q⟩
end
structure ObjM (h : Heap) (x dx C : Addr) (mA : Str -> Option Value) : Prop where
 obj : h.get? x = some (instObj C dx)
 ns : h.Ns1 dx mA
 ne : dx ≠ x
theorem vn {h : Heap} {dx : Addr} {mA : Str -> Option Value} (n : h.Ns1 dx mA) : ∃ od, h.get? dx = some od /\ ∀ name, lookIn name od = some (mA name) := by
 obtain ⟨o, es, ep, ho, hd, hk, _, hm⟩ := n;refine ⟨o, ho, fun name => ?_⟩;have e := hm name;unfold nsFind findBy at e;rw [<- Array.find?_toList] at e;unfold lookIn;rw [hd];dsimp only;split
 ·rename_i y q
  rw [q] at e;exact congrArg some e
 ·rename_i q
  rw [q] at e;have a : es.toList.any (·.refKey) = false := by
   rw [List.any_eq_false];intro y hy;obtain ⟨z, t, hkey⟩ := hk y (Array.mem_toList_iff.mp hy);simp [DictEntry.refKey, hkey]
  have a' : ¬ es.toList.any (·.refKey) = true := by rw [a]; exact Bool.false_ne_true
  rw [if_neg a'];exact congrArg some e
theorem ObjM.look {h : Heap} {x dx C : Addr} {mA : Str -> Option Value} (I : ObjM h x dx C mA) : ∃ od, InstAt h x (instObj C dx) C (some od) /\ ∀ name, lookIn name od = some (mA name) :=
 let ⟨od, ho, hl⟩ := vn I.ns
 ⟨od, ⟨I.obj, rfl, rfl, ho⟩, hl⟩
section
variable {prog : Program} {w : World} {A : Around} {E : Value -> Shared -> Prop} {s : Shared} {K : PySem.W.Frag} {x dx C f : Addr} {mA : Str -> Option Value} {name : Str} {v : Value}
end
section
variable {P : Program} {w : World} {H H' : Hp} {h h' : Heap} {a C dx : Addr} {fs fs' : List (Str × V)}
theorem y7 (hok : HOk P w H h) (e : H a = some (.ins C dx fs)) : ∃ mA, ObjM h a dx C mA /\ (∀ f, RelO (fs.lookup f) (mA f)) /\ PySem.Within mA (fs.map (·.1)) /\ fs.length <= 1000 /\ H dx = some (.own a) := by
 obtain ⟨d, z, ne, ob, mA, n, r, q⟩ := (show ObjOk P w H h a (.ins C dx fs) from hok a _ e);exact ⟨mA, ⟨ob, n, ne⟩, r, q, z, d⟩
end
structure Cls (K : PySem.W.Frag) (C : Addr) : Prop where
 pg : plainGet K C Str.empty = true
 hd : hasDictIn K C = true
 po : plainOver K C = true
 sa : findIn K (.ref C) "__setattr__" = some (some (.builtin "object.__setattr__"))
theorem Cls.get {K : PySem.W.Frag} {C : Addr} (c : Cls K C) (f : Str) : plainGet K C f = true := c.pg
section
variable {X : Cx} {ab : List (Addr × Obj)} {σ : St} {H : Hp} {s : Shared} {a C dx : Addr} {fs : List (Str × V)} {f : Str} {v : V} {A : Around} {E : Value -> Shared -> Prop}
end
section
variable {X : Cx} {o e value : Expr} {f : Str} {pos pos' tpos : Pos} {ta tv : TE}
end
section
variable {X : Cx} {ab : List (Addr × Obj)} {σ : St} {H : Hp} {s : Shared} {A : Around} {E : Value -> Shared -> Prop} {Q : Value -> Shared -> Prop} {c : Value} {b : Bool}
inductive TyOf (K : PySem.W.Frag) (H : Hp) : V -> Value -> Prop where
 | non : TyOf K H .non (.type "NoneType")
 | bl (x : Bool) : TyOf K H (.bl x) (.type "bool")
 | int (i : Int) : TyOf K H (.int i) (.type "int")
 | str (x : Str) : TyOf K H (.str x) (.type "str")
 | flt (x : UInt64) : TyOf K H (.flt x) (.type "float")
 | lst {a : Addr} {xs : List V} (e : H a = some (.lst xs)) : TyOf K H (.ref a) (.type "list")
 | frz {a : Addr} {o : Obj} {xs : List V} (e : H a = some (.frz o (.lst xs))) : TyOf K H (.ref a) (.type "list")
 | tup {a : Addr} {xs : List V} (e : H a = some (.tup xs)) : TyOf K H (.ref a) (.type "tuple")
 | dK {a : Addr} {kvs : List (bi × V)} (e : H a = some (.dK kvs)) : TyOf K H (.ref a) (.type "dict")
 | dT {a : Addr} {kvs : List (List bi × V)} (e : H a = some (.dT kvs)) : TyOf K H (.ref a) (.type "dict")
 | ins {a C dx : Addr} {fs : List (Str × V)} (e : H a = some (.ins C dx fs)) (cl : Cls K C) (ha : findIn K (.ref C) "__class__" = some (some (.builtin "object.__class__")))
   (hn : specialIn K (.builtin "object.__class__") "__get__" = some (some (.builtin "getset_descriptor.__get__"))) (htk : takesIn K (.builtin "object.__class__") = some true)
   (hm : mroIn K C (.type "object") = some true) : TyOf K H (.ref a) (.ref C)
theorem ju {x : V} {u t : Value} (I : Inv X ab σ H s) (rx : RelV x u) (ty : TyOf X.K H x t) (e : kitOne X.K t c = some b) (h : ∀ tk, Q (.bool b) { s with toks := tk }) :
  wpAny (model X.prog X.w) A (call (.builtin "isinstance") [u, c]) Q E s := by
 cases ty with
 | non => cases (show u = Value.none from rx); exact kia_one kitx_none I.kIn True.intro e (fun z => nomatch z) h
 | bl y => cases (show u = Value.bool y from rx); exact kia_one kitx_bool I.kIn True.intro e (fun z => nomatch z) h
 | int i => obtain ⟨t, q⟩ := (show ∃ t, u = Value.int i t from rx); cases q; exact kia_one kitx_int I.kIn True.intro e (fun z => nomatch z) h
 | str y => obtain ⟨t, q⟩ := (show ∃ t, u = Value.str y t from rx); cases q; exact kia_one kitx_str I.kIn True.intro e (fun z => nomatch z) h
 | flt y => obtain ⟨t, q⟩ := (show ∃ t, u = Value.float y t from rx); cases q; exact kia_one kitx_float I.kIn True.intro e (fun z => nomatch z) h
 | @lst a xs ea =>
  cases (show u = Value.ref a from rx);obtain ⟨_, _, n, _, h1⟩ := (show ObjOk X.prog X.w H s.heap a (.lst xs) from I.hok a _ ea);exact kia_one kitx_list I.kIn ⟨_, h1, rfl⟩ e (fun z => nomatch z) h
 | @frz a ob xs ea =>
  cases (show u = Value.ref a from rx);obtain ⟨_, _, _, n, _, h1⟩ := (show ObjOk X.prog X.w H s.heap a (.frz ob (.lst xs)) from I.hok a _ ea);exact kia_one kitx_list I.kIn ⟨_, h1, rfl⟩ e (fun z => nomatch z) h
 | @tup a xs ea =>
  cases (show u = Value.ref a from rx);obtain ⟨_, _, _, p⟩ := (show ObjOk X.prog X.w H s.heap a (.tup xs) from I.hok a _ ea);obtain ⟨o, h1, h2, _⟩ := p;exact kia_one kitx_tuple I.kIn ⟨o, h1, h2⟩ e (fun z => nomatch z) h
 | @dK a kvs ea =>
  cases (show u = Value.ref a from rx);obtain ⟨_, _, vs, _, p⟩ := (show ObjOk X.prog X.w H s.heap a (.dK kvs) from I.hok a _ ea);obtain ⟨o, es, ep, h1, h2, _⟩ := p;exact kia_one kitx_dict I.kIn ⟨o, h1, h2.1⟩ e (fun z => nomatch z) h
 | @dT a kvs ea =>
  cases (show u = Value.ref a from rx);obtain ⟨_, _, xs, _, o, es, ep, h1, h2, _⟩ := (show ObjOk X.prog X.w H s.heap a (.dT kvs) from I.hok a _ ea);exact kia_one kitx_dict I.kIn ⟨o, h1, h2.1⟩ e (fun z => nomatch z) h
 | @ins a C dx fs ea cl ha hn htk hm =>
  cases (show u = Value.ref a from rx);obtain ⟨mA, O, _⟩ := y7 I.hok ea;obtain ⟨od, J, _⟩ := O.look;exact kia_one (kitx_own (cl.get _) cl.hd ha hn htk hm) I.kIn J e (fun z => nomatch z) h
end
structure Room (k : Nat) (A : Around) : Prop where
 hd : A.handled = none
 dp : A.depth + 3 * k + 5 < recursionLimit
 un : A.units + 16 * k + 200 < cLine
 gd : A.guards = some []
theorem Room.mono {j k : Nat} {A : Around} (r : Room k A) (h : j <= k) : Room j A := ⟨r.hd, by have := r.dp; omega, by have := r.un; omega, r.gd⟩
theorem Room.deeper {k : Nat} {A : Around} (r : Room (k + 1) A) (env : Env) : Room k (A.deeper env) :=
 ⟨r.hd, by have := r.dp; show A.depth + 1 + 3 * k + 5 < _; omega, by have := r.un; show A.units + 3 + 16 * k + 200 < _; omega, r.gd⟩
theorem Room.depth {k : Nat} {A : Around} (r : Room k A) : A.depth < recursionLimit := by have := r.dp; omega
theorem Room.units {k : Nat} {A : Around} (r : Room k A) : A.units + 64 < cLine := by have := r.un; omega
noncomputable def B8 : TA := fun _ H Q => Q [] H
noncomputable def Bb (ta : TE) (tr : TA) : TA := fun σ H Q => ta σ H fun x H1 => tr σ H1 fun xs H2 => Q (x :: xs) H2
section
variable {X : Cx} {e : Expr} {es : List Expr} {te : TE} {t : TA} {pos : Pos}
theorem fZ : PA X [] B8 := fun _ _ _ _ H Q I h => Calls.spliced_nil ⟨[], H, I, .nil, h⟩
theorem eB (ha : PE X e te) (hr : PA X es t) (hs : autoParam (starEach (e :: es) X.env = (false, eval e X.env) :: starEach es X.env) bj._auto_1) : PA X (e :: es) (Bb te t) := by
 intro pos ab s σ H Q I h;rw [hs];show wpAny _ _ (spliced ((false, eval e X.env) :: backTo pos (starEach es X.env))) _ _ s;refine Calls.spliced_cons (bQ (ha ab s σ H _ I h) fun u s1 ⟨x, H1, I1, r1, q1⟩ => ?_);exact bQ (hr pos ab s1 σ H1 _ I1 q1) fun us s2 ⟨xs, H2, I2, r2, q2⟩ => ⟨x :: xs, H2, I2, .cons r1 r2, q2⟩
noncomputable def B4 (t : TA) : TE := fun σ H Q => t σ H fun xs H1 => xs.length <= sizeLine /\ ∀ p, H1 p = none -> Q (.ref p) (bq H1 p (.tup xs))
noncomputable def B9 (t : TA) : TE := fun σ H Q => t σ H fun xs H1 => xs.length <= sizeLine /\ ∀ p, H1 p = none -> Q (.ref p) (bq H1 p (.lst xs))
theorem zU {x1} (h : PA X es t) : PE X (.Tuple es x1 pos) (B4 t) := by
 intro ab s σ H Q I hq;refine wpAny_Tuple_spliced (bQ (h pos ab s σ H _ I hq) fun us s1 ⟨xs, H1, I1, r, z, q⟩ => ⟨by rw [<- r.length]; exact z, ?_⟩);have hf : H1 s1.heap.objs.size = none := I1.hok.fresh (Nat.le_refl _);refine ⟨.ref s1.heap.objs.size, bq H1 s1.heap.objs.size (.tup xs), I1.laid (t' := s1.toks) (fun b u e => Heap.get?_push_of_some _ e) (Nat.le_refl _) ?_, rfl, q _ hf⟩;exact ⟨z, us, r, ⟨_, Heap.get?_push_size _ rfl, rfl, _, rfl⟩⟩
theorem vb (h : PA X es t) : PE X (.List es pos) (B9 t) := by
 intro ab s σ H Q I hq;refine wpAny_List_spliced (bQ (h pos ab s σ H _ I hq) fun us s1 ⟨xs, H1, I1, r, z, q⟩ => ⟨by rw [<- r.length]; exact z, ?_⟩);have hf : H1 s1.heap.objs.size = none := I1.hok.fresh (Nat.le_refl _);refine ⟨.ref s1.heap.objs.size, bq H1 s1.heap.objs.size (.lst xs), I1.laid (t' := s1.toks) (fun b u e => Heap.get?_push_of_some _ e) (Nat.le_refl _) ?_, rfl, q _ hf⟩;exact ⟨z, us, 0, r, Heap.get?_push_size _ rfl⟩
end
noncomputable abbrev Sp := List V -> Hp -> VK -> XK -> Prop
noncomputable abbrev ly := List Env -> Hp -> Shared -> XK -> Value -> Shared -> Prop
structure uC (P : Program) (w : World) (K : PySem.W.Frag) (mg : Str -> Option Value) (base : Heap) (A : Around) (outer : List Env) (s : Shared) (H : Hp) : Prop where
 frames : A.frames = some outer
 mod : Mod K mg base
 bs : ∀ b o, base.get? b = some o -> s.heap.get? b = some o /\ H b = none
 bsz : base.objs.size <= s.heap.objs.size
 funs : s.heap.FunFrames base outer
 frf : ∀ b ∈ jX outer, H b = none
 hok : HOk P w H s.heap
 bare : AllBare s.gens
noncomputable def CE (outer : List Env) (P : Program) (w : World) (H : Hp) (s : Shared) (Q : VK) (u : Value) (s' : Shared) : Prop :=
 ∃ v H', s'.os = s.os /\ AllBare s'.gens /\ Un (jX outer) [] H H' s.heap s'.heap /\ HOk P w H' s'.heap /\ RelV v u /\ Q v H'
noncomputable def CR (CX : ly) (outer : List Env) (P : Program) (w : World) (H : Hp) (s : Shared) (Q : VK) (E : XK) (r : Result) (s' : Shared) : Prop :=
 match r with
 | .ok (.ret u) => CE outer P w H s Q u s'
 | .ok _ => False
 | .error e => CX outer H s E e s'
structure cL (P : Program) (w : World) (K : PySem.W.Frag) (mg : Str -> Option Value) (base : Heap) (CX : ly) (k : Nat) (f : Addr) (fd : FuncData) (ps : List Str) (sp : Sp) : Prop where
 len : ∀ vs H Q E, sp vs H Q E -> vs.length = ps.length
 run : ∀ (A : Around) (outer : List Env) (s : Shared) (H : Hp) (args : Args) (us : List Value) (vs : List V) (Q : VK) (E : XK), Room k A -> uC P w K mg base A outer s H -> BindsTo s fd args (ps.zip us) -> Vals vs us -> sp vs H Q E ->
  codeAny (model P w) A (.call (.ref f) args) (CR CX outer P w H s Q E) s
section
variable {X : Cx} {ab : List (Addr × Obj)} {σ : St} {H : Hp} {s s' : Shared}
theorem Inv.env0 (I : Inv X ab σ H s) : uC X.prog X.w X.K X.mg X.base X.A X.stack s H :=
 ⟨I.ok.frames, I.ok.mod, I.bs, Nat.le_trans I.ok.bsz I.sz, I.stack, I.stkFree, I.hok, I.bare⟩
theorem Inv.after {Q : VK} {u : Value} (I : Inv X ab σ H s) (h : CE X.stack X.prog X.w H s Q u s') : EP X ab σ Q u s' := by
 obtain ⟨v, H', os, bare, un, hok, r, q⟩ := h;obtain ⟨hh, g, d, t, os'⟩ := s';obtain rfl : os' = s.os := os;exact ⟨v, H', I.call (h' := hh) (g' := g) (d' := d) (t' := t) (ch := []) un hok bare (fun b z => absurd z (by simp)), r, q⟩
end
noncomputable def xq (sp : Sp) (dvs : List V) (E : XK) (t : TA) : TE := fun σ H Q => t σ H fun vs H1 => sp (vs ++ dvs) H1 Q E
noncomputable def Binds (K : PySem.W.Frag) (fd : FuncData) (ps : List Str) (ds : List Value) : Prop :=
 ∀ (s : Shared) (us : List Value), K.In s.heap -> (us ++ ds).length = ps.length -> BindsTo s fd ⟨us, []⟩ (ps.zip (us ++ ds))
theorem Binds.all {K : PySem.W.Frag} {fd : FuncData} {ps : List Str} (h : ∀ us : List Value, us.length = ps.length -> bindArgs fd ⟨us, []⟩ = pure (ps.zip us)) : Binds K fd ps [] := fun s us _ hl => by
 rw [List.append_nil] at hl ⊢;exact .of_eq (h us hl)
noncomputable def rY (CX : ly) (X : Cx) (E : XK) : Prop := ∀ (ab : List (Addr × Obj)) (σ : St) (H : Hp) (s : Shared) (e : Value) (s' : Shared), Inv X ab σ H s -> CX X.stack H s E e s' -> X.xe e s'
section
variable {X : Cx} {CX : ly} {k : Nat} {f C : Addr} {fd : FuncData} {ps : List Str} {sp : Sp} {dvs : List V} {ds : List Value} {E : XK} {x m : Str} {p pos apos : Pos} {e o : Expr} {es : List Expr} {ta : TE} {t : TA}
theorem zx {ab : List (Addr × Obj)} {σ : St} {H : Hp} {s : Shared} {Q : VK} {us : List Value} {vs : List V} (F : cL X.prog X.w X.K X.mg X.base CX k f fd ps sp) (hr : Room k X.A) (hb : Binds X.K fd ps ds) (hd : Vals dvs ds) (hx : rY CX X E)
  (I : Inv X ab σ H s) (r : Vals vs us) (h : sp (vs ++ dvs) H Q E) : wpAny (model X.prog X.w) X.A (call (.ref f) us) (EP X ab σ Q) X.xe s := by
 have r2 : Vals (vs ++ dvs) (us ++ ds) := r.append hd;have hl : (us ++ ds).length = ps.length := by rw [<- r2.length]; exact F.len _ _ _ _ h
 refine wpAny_call (codeAny_mono (F.run X.A X.stack s H ⟨us, []⟩ (us ++ ds) (vs ++ dvs) Q E hr I.env0 (hb s us I.kIn hl) r2 h) fun r s' hq => ?_);cases r with
 | error e => exact hx ab σ H s e s' I hq
 | ok fl =>
  cases fl with
  | ret u => exact I.after hq
  | next => exact False.elim hq
  | brk => exact False.elim hq
  | cont => exact False.elim hq
theorem yH (F : cL X.prog X.w X.K X.mg X.base CX k f fd ps sp) (hr : Room k X.A) (hg : Gl X x) (hm : X.mg x = some (.ref f)) (hk : keepIn X.K (.ref f) = true) (hb : Binds X.K fd ps ds) (hd : Vals dvs ds) (hx : rY CX X E)
  (ha : PA X (e :: es) t) (hdb : autoParam ((x == ("__debug__" : Str)) = false) cz._auto_1) (he : autoParam (starEach (e :: es) X.env = (false, eval e X.env) :: starEach es X.env) bj._auto_1) (hpl : autoParam ((backTo pos (starEach es X.env)).any (·.1) = false) bj._auto_1) :
  PE X (.Call (.Name x p) (e :: es) [] pos) (xq sp dvs E t) := by
 intro ab s σ H Q I h;refine wpAny_Call_Name_kw (yR I hg hm ?_ hdb);refine callWith_K (h₀ := X.base) I.ok.mod.kin hk (bQ (ha pos ab s σ H _ I h) fun us s1 ⟨vs, H1, I1, r, q⟩ => ⟨I1.kIn, ?_⟩) he hpl;exact zx F hr hb hd hx I1 r q
end
section
variable {X : Cx} {CX : ly} {k : Nat} {f C : Addr} {fd : FuncData} {ps ks : List Str} {sp : Sp} {E : XK} {x m : Str} {p pos apos kpos : Pos} {e o : Expr} {es : List Expr} {kws : List Keyword} {te ta : TE} {t tk : TA} {nm : Option Str}
variable {g : List Value -> List Value -> List Value} {gV : List V -> List V -> List V}
end
structure bO (N P : List Str) (sc : Scope) : Prop where
 kind : sc.kind = .function
 co : sc.isCoroutine = false
 gen : sc.isGenerator = false
 nd : N.Nodup
 pre : N.take P.length = P
 par : ∀ x ∈ P, sc.names.lookup x = some .local \/ sc.names.lookup x = some .cell
 nofree : ∀ y ∈ sc.names, y.2 ≠ .free
theorem pM {kindOf : Str -> Option NameKind} {x : Str} : ∀ {binds : List (Str × Value)} {m : Str -> Option Value}, (∀ v, (x, v) ∉ binds) -> bindL kindOf binds m x = m x
 | [], _, _ => rfl
 | (n, v) :: r, m, h => by
  unfold bindL;rw [pM fun w hw => h w (List.mem_cons_of_mem _ hw)];split
  ·have : x ≠ n := by rintro rfl; exact h v List.mem_cons_self
   simp [this]
  ·rfl
theorem pO {kindOf : Str -> Option NameKind} {x : Str} : ∀ {binds : List (Str × Value)} {m : Str -> Option Value}, (∀ v, (x, v) ∉ binds) -> bindC kindOf binds m x = m x
 | [], _, _ => rfl
 | (n, v) :: r, m, h => by
  unfold bindC;rw [pO fun w hw => h w (List.mem_cons_of_mem _ hw)];split
  ·rfl
  ·have : x ≠ n := by rintro rfl; exact h v List.mem_cons_self
   simp [this]
theorem pN {kindOf : Str -> Option NameKind} {x : Str} {v : Value} : ∀ {P : List Str} {vs : List Value} {i : Nat} {m : Str -> Option Value}, P.Nodup -> P[i]? = some x -> vs[i]? = some v -> kindOf x = some .local ->
  bindL kindOf (P.zip vs) m x = some v
 | [], _, _, _, _, h, _, _ => by simp at h
 | _ :: _, [], _, _, _, _, h, _ => by simp at h
 | p :: P, w :: vs, 0, m, nd, h1, h2, hk => by
  simp at h1 h2; subst h1; subst h2;show bindL kindOf ((p, w) :: P.zip vs) m p = _;unfold bindL;rw [pM fun v hv => (List.nodup_cons.mp nd).1 (List.of_mem_zip hv).1, if_pos hk];simp
 | p :: P, w :: vs, i + 1, m, nd, h1, h2, hk => by
  show bindL kindOf ((p, w) :: P.zip vs) m x = _;unfold bindL;exact pN (i := i) (List.nodup_cons.mp nd).2 (by simpa using h1) (by simpa using h2) hk
theorem pP {kindOf : Str -> Option NameKind} {x : Str} {v : Value} : ∀ {P : List Str} {vs : List Value} {i : Nat} {m : Str -> Option Value}, P.Nodup -> P[i]? = some x -> vs[i]? = some v -> kindOf x ≠ some .local ->
  bindC kindOf (P.zip vs) m x = some v
 | [], _, _, _, _, h, _, _ => by simp at h
 | _ :: _, [], _, _, _, _, h, _ => by simp at h
 | p :: P, w :: vs, 0, m, nd, h1, h2, hk => by
  simp at h1 h2; subst h1; subst h2;show bindC kindOf ((p, w) :: P.zip vs) m p = _;unfold bindC;rw [pO fun v hv => (List.nodup_cons.mp nd).1 (List.of_mem_zip hv).1, if_neg hk];simp
 | p :: P, w :: vs, i + 1, m, nd, h1, h2, hk => by
  show bindC kindOf ((p, w) :: P.zip vs) m x = _;unfold bindC;exact pP (i := i) (List.nodup_cons.mp nd).2 (by simpa using h1) (by simpa using h2) hk
noncomputable def start (N : List Str) (vs : List V) : St := vs.map some ++ List.replicate (N.length - vs.length) none
noncomputable def nc (CX : ly) (P : Program) (w : World) (K : PySem.W.Frag) (mg : Str -> Option Value) (base : Heap) (N : List Str) (qual : Str) (scope : Scope) (f : Addr) (cd : Value) (A : Around) (outer : List Env) (s : Shared) (H : Hp) (E : XK) : Cx where
 prog := P
 w := w
 K := K
 mg := mg
 base := base
 A := A.deeper (envOfC qual scope s.heap.objs.size f cd)
 N := N
 s₀ := s
 H₀ := H
 env := envOfC qual scope s.heap.objs.size f cd
 outer := outer
 stack := envOfC qual scope s.heap.objs.size f cd :: outer
 ex := []
 calm := true
 fn := fun _ => true
 pn := []
 xe := fun e s' => wpAny (model P w) (A.deeper (envOfC qual scope s.heap.objs.size f cd)) (leaving (envOfC qual scope s.heap.objs.size f cd) e) (fun _ s'' => CX outer H s E e s'') (fun e' s'' => CX outer H s E e' s'') s'
theorem rj {sc : Scope} {n : Nat} {x : Str} (h : sc.names.lookup x = some .cell) : ∃ c, (cellsFrom n sc.names []).lookup x = some c := by
 have q := cellsFrom_some sc.names n [] (.inl h);exact Option.isSome_iff_exists.mp q
theorem vF {CX : ly} {P : Program} {w : World} {K : PySem.W.Frag} {mg : Str -> Option Value} {base : Heap} {N ps : List Str} {qual : Str} {scope : Scope} {f : Addr} {cd : Value} {A : Around} {outer : List Env} {s s1 : Shared} {H : Hp} {E : XK} {us : List Value} {vs : List V}
  (S : bO N ps scope) (hd : A.handled = none) (e0 : uC P w K mg base A outer s H) (hl : vs.length = ps.length) (r : Vals vs us)
  (x : InCallC s s.heap.objs.size (bindL (envOfC qual scope s.heap.objs.size f cd).kindOf (ps.zip us) fun _ => none) (cellsFrom (s.heap.objs.size + 1) scope.names []) (bindC (envOfC qual scope s.heap.objs.size f cd).kindOf (ps.zip us) fun _ => none) s1) :
  Inv (nc CX P w K mg base N qual scope f cd A outer s H E) [] (start N vs) H s1 := by
 have hpl : ps.length <= N.length := by have := congrArg List.length S.pre; rw [List.length_take] at this; omega
 obtain ⟨h1, tk, rfl, hk⟩ := x.done;have noA : ∀ b : Addr, b ∉ (nc CX P w K mg base N qual scope f cd A outer s H E).ex := fun b z => absurd (show b ∈ ([] : List Addr) from z) (by simp)
 refine ⟨⟨e0.mod, S.kind, rfl, rfl, Nat.le_refl _, fun y z c h1 h2 => ?_, fun y hy => ?_, fun y c _ h => ?_, fun _ => hd, Around.frames_deeper e0.frames, .inr ⟨rfl, rfl⟩, fun b z => absurd z (noA b), e0.bs, e0.bsz, fun b _ _ => noA b, fun b z => absurd z (noA b), e0.funs, e0.frf⟩,
  rfl, e0.bare, Un.kept hk, ⟨_, x.toInCall.ns, fun i y v h1 h2 h3 => ?_⟩, fun y c h => ⟨_, x.cell y c h⟩, e0.hok.fresh (Nat.le_refl _), fun y c h => ?_, fun p hp => absurd (show p ∈ ([] : List (Addr × Obj)) from hp) (by simp), e0.hok.kept hk, ?_⟩
 ·exact name_of_addr x.apart (PySem.mem_of_lookup h1) (PySem.mem_of_lookup h2)
 ·have hy : scope.names.lookup y = some .cell \/ scope.names.lookup y = some .free := hy
  rcases hy with hy | hy
  ·exact rj hy
  ·exact absurd rfl (S.nofree _ (PySem.mem_of_lookup hy))
 ·exact Nat.le_of_lt (x.above y c (PySem.mem_of_lookup h))
 ·have hi : i < vs.length := by
   unfold start at h2;by_cases hi : i < vs.length
   ·exact hi
   ·rw [List.getElem?_append_right (by simpa using hi)] at h2
    rw [List.getElem?_replicate] at h2;split at h2 <;> cases h2
  have ha : vs[i]? = some v := by
   unfold start at h2;rw [List.getElem?_append_left (by simpa using hi), List.getElem?_map] at h2;cases e : vs[i]? with
   | none => rw [e] at h2; cases h2
   | some a => rw [e] at h2; cases h2; rfl
  obtain ⟨u, hu, rv⟩ := r.get ha;have hp : ps[i]? = some y := by
   rw [<- S.pre, List.getElem?_take_of_lt oM]; exact h1
  have ndP : ps.Nodup := by rw [<- S.pre]; exact S.nd.sublist (List.take_sublist _ _)
  refine ⟨u, rv, ?_⟩;rcases S.par y (List.mem_of_getElem? hp) with k | k
  ·exact .inl ⟨k, pN ndP hp hu k⟩
  ·obtain ⟨c, e⟩ := rj (n := s.heap.objs.size + 1) k
   refine .inr ⟨.inl k, c, e, ?_⟩;have q := x.cell y c e;rw [pP ndP hp hu (by show scope.names.lookup y ≠ _; rw [k]; decide)] at q;exact q
 ·exact e0.hok.fresh (Nat.le_of_lt (x.above y c (PySem.mem_of_lookup h)))
 ·unfold start
  show _ = N.length;rw [List.length_append, List.length_map, List.length_replicate];omega
theorem BJ {CX : ly} {P : Program} {w : World} {K : PySem.W.Frag} {mg : Str -> Option Value} {base : Heap} {k : Nat} {f : Addr} {name qual : Str} {params : Arguments} {body : List Stmt} {scope : Scope} {dV kV doc pm cdv ct oc : Value} {an od : Option Addr}
  {osl : Array (Option Value)} {N ps : List Str} {sp : Sp} (lk : K.lookup f = some ⟨oc, od, .func (fnOf name qual params body scope dV kV doc pm an cdv ct), osl⟩) (hcd : codeIn K cdv qual = true) (S : bO N ps scope)
  (len : ∀ vs H Q E, sp vs H Q E -> vs.length = ps.length)
  (hbody : ∀ (A : Around) (outer : List Env) (s : Shared) (H : Hp) (vs : List V) (Q : VK) (E : XK), Room k (A.deeper (envOfC qual scope s.heap.objs.size f cdv)) -> sp vs H Q E ->
   ∃ t, PSs (nc CX P w K mg base N qual scope f cdv A outer s H E) body t /\ t { nx := fun _ H' => Q .non H', rt := Q } (start N vs) H) :
  cL P w K mg base CX (k + 1) f (fnOf name qual params body scope dV kV doc pm an cdv ct) ps sp := by
 refine ⟨len, fun A outer s H args us vs Q E hr e0 hb r hsp => ?_⟩;have hl := len _ _ _ _ hsp;have KX : K.In s.heap := e0.mod.kin.keeps fun b o e => (e0.bs b o e).1
 have lim : s.heap.NoLimit := e0.mod.nolimit.keeps fun b o e => (e0.bs b o e).1
 have hkind : ∀ y ∈ ps.zip us, scope.names.lookup y.1 = some .local \/ (scope.names.lookup y.1 = some .cell /\ ((cellsFrom (s.heap.objs.size + 1) scope.names []).lookup y.1).isSome = true) := fun hq0 hy => by
  obtain ⟨n, v⟩ := hq0;rcases S.par n (List.of_mem_zip hy).1 with q | q
  ·exact .inl q
  ·exact .inr ⟨q, cellsFrom_some _ _ _ (.inl q)⟩
 refine codeAny_call_function hr.depth (KX _ _ lk) rfl S.co S.gen rfl (codeRec_of KX hcd) (hb _ _ _ _ ?_);refine wpAny_newFunctionEnv_cells S.kind hkind fun env he s1 x => ?_
 subst he;refine ⟨lim.keeps x.toInCall.keep, codeAny_func ?_⟩;obtain ⟨t, ht, hq⟩ := hbody A outer s H vs Q E (hr.deeper _) hsp;have I : Inv (nc CX P w K mg base N qual scope f cdv A outer s H E) [] (start N vs) H s1 := vF S hr.hd e0 hl r x;refine wpAny_mono (ht [] s1 (start N vs) H _ I hq) (fun fl s' hs => ?_) fun e s' hs => hs
 have fin : ∀ {σ' : St} {H' : Hp} {v : V} {u : Value}, Inv (nc CX P w K mg base N qual scope f cdv A outer s H E) [] σ' H' s' -> RelV v u -> Q v H' -> CE outer P w H s Q u s' :=
  fun {σ' H' v u} J rv q => ⟨v, H', J.os, J.bare, J.base, J.hok, rv, q⟩
 cases fl with
 | ret u =>
  obtain ⟨v, σ', H', J, rv, q⟩ := hs;exact fin J rv q
 | next =>
  obtain ⟨σ', H', J, q⟩ := hs;exact fin (v := V.non) (u := Value.none) J rfl q
 | brk =>
  obtain ⟨_, _, _, q⟩ := hs;exact False.elim q
 | cont =>
  obtain ⟨_, _, _, q⟩ := hs;exact False.elim q
section
variable {X : Cx} {x : Str} {p pos : Pos} {e : Expr} {es : List Expr} {t : TA} {id T : String} {r : List V -> Hp -> VK -> Prop}
noncomputable def zu (r : List V -> Hp -> VK -> Prop) (t : TA) : TE := fun σ H Q => t σ H fun vs H1 => r vs H1 Q
theorem mM (hc : CallR X (.builtin id) r) (hg : Gl X x) (hm : X.mg x = none) (hv : bootBuiltins x = some (.builtin id)) (ha : PA X (e :: es) t) (hn : autoParam (x ≠ "__name__") cz._auto_1) (hdb : autoParam ((x == ("__debug__" : Str)) = false) cz._auto_1)
  (he : autoParam (starEach (e :: es) X.env = (false, eval e X.env) :: starEach es X.env) bj._auto_1) (hpl : autoParam ((backTo pos (starEach es X.env)).any (·.1) = false) bj._auto_1) : PE X (.Call (.Name x p) (e :: es) [] pos) (zu r t) := by
 intro ab s σ H Q I h;refine wpAny_Call_Name_kw (lf I hg hm hv ?_ hn hdb);exact PyProof.Rows.callWith_builtin1 (bQ (ha pos ab s σ H _ I h) fun us s1 ⟨vs, H1, I1, r1, q1⟩ => hc ab s1 σ H1 vs us Q I1 r1 q1) he hpl
theorem jm (hc : CallR X (.type T) r) (hg : Gl X x) (hm : X.mg x = none) (hv : bootBuiltins x = some (.type T)) (ha : PA X (e :: es) t) (hn : autoParam (x ≠ "__name__") cz._auto_1) (hdb : autoParam ((x == ("__debug__" : Str)) = false) cz._auto_1)
  (he : autoParam (starEach (e :: es) X.env = (false, eval e X.env) :: starEach es X.env) bj._auto_1) (hpl : autoParam ((backTo pos (starEach es X.env)).any (·.1) = false) bj._auto_1) : PE X (.Call (.Name x p) (e :: es) [] pos) (zu r t) := by
 intro ab s σ H Q I h;refine wpAny_Call_Name_kw (lf I hg hm hv ?_ hn hdb);exact PyProof.Rows.callWith_type1 (bQ (ha pos ab s σ H _ I h) fun us s1 ⟨vs, H1, I1, r1, q1⟩ => hc ab s1 σ H1 vs us Q I1 r1 q1) he hpl
end
end L2
namespace HT
open PySem PyProof.Rows
section
open PySem.SeqAt
open PySem.AutoSeq1 (wpAny_loadPart')
open PySem.MeetsSeq PySem.MeetsSeq2 PySem.MeetsSeq3
end
section
variable {prog : Program} {w : World} {A : Around} {E : Value -> Shared -> Prop} {s : Shared}
noncomputable def sIx (n d : Nat) : Option Int -> Nat
 | none => d
 | some v => if v < 0 then (v + (n : Int)).toNat else min v.toNat n
theorem zw (n d : Nat) (hd : d <= n) (o : Option Int) : sIx n d o <= n := by
 cases o with
 | none => exact hd
 | some v =>
  show (if v < 0 then (v + (n : Int)).toNat else min v.toNat n) <= n;by_cases hv : v < 0
  ·rw [if_pos hv]; omega
  ·rw [if_neg hv]; exact Nat.min_le_right _ _
theorem sV (v : Int) (n d : Nat) : (if v < 0 then max (v + (n : Int)) 0 else min v (n : Int)) = ((sIx n d (some v) : Nat) : Int) := by
 show (if v < 0 then max (v + (n : Int)) 0 else min v (n : Int)) = (((if v < 0 then (v + (n : Int)).toNat else min v.toNat n) : Nat) : Int);by_cases hv : v < 0
 ·simp only [if_pos hv]; omega
 ·simp only [if_neg hv]; omega
theorem uy (lo hi : Option Int) (n : Nat) : Builtin.Slice.sliceAdjust lo hi 1 (n : Int) = (((sIx n 0 lo : Nat) : Int), ((sIx n n hi : Nat) : Int)) := by
 have h1 : ¬ ((1 : Int) < 0) := by omega
 unfold Builtin.Slice.sliceAdjust;simp only [h1, if_false];refine Prod.ext ?_ ?_
 ·cases lo with
  | none => rfl
  | some v => exact sV v n 0
 ·cases hi with
  | none => rfl
  | some v => exact sV v n n
theorem t6 (i j : Nat) : Builtin.Slice.slicePlaces (i : Int) (j : Int) 1 = j - i := by
 unfold Builtin.Slice.slicePlaces;have h1 : (1 : Int) > 0 := by omega
 simp only [h1, if_true, Int.ediv_one];split <;> omega
theorem nu {v : Value} {o : Option Int} {Q : Option Int -> Shared -> Prop} (p : IsPart v o) (h : Q o s) : wpAny (model prog w) A (Builtin.Slice.slicePartIndex v) Q E s := by
 cases p with
 | none => exact slicePart_none h
 | int i t => exact slicePart_int h
theorem mG {sl : Addr} {vl vu : Value} {lo hi : Option Int} {n : Nat} {Q : Int × Int × Nat -> Shared -> Prop} (hs : s.heap.IsSliceOf sl vl vu .none) (pl : IsPart vl lo) (pu : IsPart vu hi)
  (h : Q (((sIx n 0 lo : Nat) : Int), 1, sIx n n hi - sIx n 0 lo) s) : wpAny (model prog w) A (Builtin.Slice.sliceApplied (.ref sl) (pure (n : Int))) Q E s := by
 obtain ⟨os, hos, hcs, hds⟩ := id hs;unfold Builtin.Slice.sliceApplied Builtin.Slice.sliceFields;refine wpAny_bind (wpAny_bind (wpAny_field hos hds (x := vl) rfl (wpAny_bind (wpAny_field hos hds (x := vu) rfl (wpAny_bind (wpAny_field hos hds (x := .none) rfl (wpAny_pure ?_)))))));refine wpAny_bind (slicePart_none ?_);show wpAny _ _ (if ((1 : Int) == 0) = true then _ else _) _ _ s;rw [if_neg dC];refine wpAny_bind (nu pl (wpAny_bind (nu pu (wpAny_bind (wpAny_pure ?_)))));show wpAny _ _ (match Builtin.Slice.sliceAdjust lo hi 1 (n : Int) with | (lo, hi) => pure (lo, (1 : Int), Builtin.Slice.slicePlaces lo hi 1)) _ _ s;rw [uy lo hi n];show wpAny _ _ (pure (((sIx n 0 lo : Nat) : Int), (1 : Int), Builtin.Slice.slicePlaces ((sIx n 0 lo : Nat) : Int) ((sIx n n hi : Nat) : Int) 1)) _ _ s;rw [t6];exact wpAny_pure h
theorem wm (xs : Array Value) (i k : Nat) : ((List.range k).filterMap fun (m : Nat) => xs[((i : Int) + (m : Int) * 1).toNat]?).toArray = ((xs.toList.drop i).take k).toArray := by
 have e : (fun (m : Nat) => xs[((i : Int) + (m : Int) * 1).toNat]?) = fun m => xs[i + m]? := by
  funext m;have : ((i : Int) + (m : Int) * 1).toNat = i + m := by omega
  rw [this]
 rw [e]
 have := pick_run xs i k
 rw [List.filterMap_map] at this;have e2 : ((fun x => xs[x]?) ∘ fun x => i + x) = fun m => xs[i + m]? := rfl
 rw [e2] at this;rw [this]
theorem getItem_tuple_cut {t sl : Addr} {items : Array Value} {vl vu : Value} {lo hi : Option Int} {Q : Value -> Shared -> Prop} (ht : IsTup s.heap t items) (hs : s.heap.IsSliceOf sl vl vu .none) (pl : IsPart vl lo) (pu : IsPart vu hi)
  (hw : ¬ (sIx items.size 0 lo = 0 /\ sIx items.size items.size hi = items.size))
  (h : Q (.ref s.heap.objs.size) { s with heap := s.heap.push { cls := .type "tuple", data := .seq ((items.toList.drop (sIx items.size 0 lo)).take (sIx items.size items.size hi - sIx items.size 0 lo)).toArray } })
  (hsz : items.size <= sizeLine) : wpAny (model prog w) A (getItem (.ref t) (.ref sl)) Q E s := by
 have htake : sizeOk (.seq ((items.toList.drop (sIx items.size 0 lo)).take (sIx items.size items.size hi - sIx items.size 0 lo)).toArray) := by
  show ((items.toList.drop (sIx items.size 0 lo)).take (sIx items.size items.size hi - sIx items.size 0 lo)).toArray.size <= sizeLine;rw [List.size_toArray, List.length_take, List.length_drop, Array.length_toList];omega
 have hj : sIx items.size items.size hi <= items.size := zw _ _ (Nat.le_refl _) hi;obtain ⟨os, hos, hcs, hds⟩ := id hs;have hTs : s.TypeIs (.ref sl) "slice" := ⟨os, hos, hcs⟩;unfold getItem
 try with_reducible refine wpAny_holding ?_
 first | refine wpAny_bind (wpAny_pure ?_) | skip
 refine wpAny_bind (wpAny_sequenceKey ht.typeIs dC ?_);refine wpAny_bind (wpAny_callSpecial?_slot (name := Str.ofString "__getitem__") ht.typeIs PyProof.Rows.slot_tuple_getitem
  (wpAny_call_entry PyProof.Rows.slot_tuple_getitem ht.typeIs entry_tuple_getitem ?_ (args_tuple_getitem _ _)))
 show wpAny _ _ (Builtin.Tuple.tupleItemsOf (.ref t) >>= _) _ _ s;refine wpAny_bind (tupleItemsOf_ ht ?_);refine wpAny_bind (wpAny_typeOf hTs ?_);rw [if_pos dC];refine wpAny_bind (mG hs pl pu ?_);have hno : ¬ ((((sIx items.size 0 lo : Nat) : Int) == 0 && (1 : Int) == 1 && (sIx items.size items.size hi - sIx items.size 0 lo) == items.size) = true) := by
  intro q;rw [Bool.and_eq_true, Bool.and_eq_true] at q;have q1 : ((sIx items.size 0 lo : Nat) : Int) = 0 := eq_of_beq q.1.1;have q2 : sIx items.size items.size hi - sIx items.size 0 lo = items.size := eq_of_beq q.2;exact hw ⟨by omega, by omega⟩
 show wpAny _ _ (if (((sIx items.size 0 lo : Nat) : Int) == 0 && (1 : Int) == 1 && (sIx items.size items.size hi - sIx items.size 0 lo) == items.size) = true then _ else _) _ _ s;rw [if_neg hno, wm]
 first
  | exact wpAny_bind (m := Builtin.Tuple.tupleExact _) (wpAny_newObj_type (wpAny_pure ⟨_, rfl, wpAny_pure h⟩) htake)
  | exact wpAny_bind (m := Builtin.Tuple.tupleExact _) (wpAny_newObj_type (wpAny_bind (wpAny_pure (wpAny_pure ⟨_, rfl, wpAny_pure h⟩))) htake)
  | exact wpAny_bind (wpAny_bind (m := Builtin.Tuple.tupleExact _) (wpAny_newObj_type (wpAny_pure (wpAny_pure ⟨_, rfl, wpAny_pure h⟩)) htake))
  | exact wpAny_bind (wpAny_bind (m := Builtin.Tuple.tupleExact _) (wpAny_newObj_type (wpAny_pure ⟨_, rfl, wpAny_pure h⟩) htake))
end
end HT
namespace L2
open PySem PySem.Spec PyProof.Rows
noncomputable abbrev TO := St -> Hp -> (Option Int -> Hp -> Prop) -> Prop
noncomputable def PO (X : Cx) (e : Option Expr) (t : TO) : Prop :=
 ∀ (ab : List (Addr × Obj)) (s : Shared) (σ : St) (H : Hp) (Q : Option Int -> Hp -> Prop), Inv X ab σ H s -> t σ H Q ->
  wpAny (model X.prog X.w) X.A (evalPart e X.env) (fun u s' => ∃ o H', Inv X ab σ H' s' /\ IsPart u o /\ Q o H') X.xe s
noncomputable def yb : TO := fun _ H Q => Q none H
noncomputable def A8 (t : TE) : TO := fun σ H Q => t σ H fun x H1 => ∃ i, x = .int i /\ Q (some i) H1
section
variable {X : Cx} {e : Expr} {te : TE} {lo hi : Option Expr} {tl th : TO} {pos p2 : Pos}
theorem yA : PO X none yb := by
 intro ab s σ H Q I h;rw [evalPart_none];exact wpAny_pure ⟨none, H, I, .none, h⟩
theorem yz (h : PE X e te) : PO X (some e) (A8 te) := by
 intro ab s σ H Q I hw;rw [evalPart_some];refine bQ (h ab s σ H _ I hw) fun u s1 ⟨x, H1, I1, r1, q1⟩ => ?_
 obtain ⟨i, rfl, q⟩ := q1;obtain ⟨t, rfl⟩ := r1;exact ⟨some i, H1, I1, .int i t, q⟩
noncomputable def AT (X : Cx) (r : V -> Option Int -> Option Int -> Hp -> VK -> Prop) : Prop :=
 ∀ (ab : List (Addr × Obj)) (s : Shared) (σ : St) (H : Hp) (x : V) (v vl vu : Value) (lo hi : Option Int) (sl : Addr) (Q : VK), Inv X ab σ H s -> RelV x v -> s.heap.IsSliceOf sl vl vu .none -> IsPart vl lo -> IsPart vu hi -> r x lo hi H Q ->
  ∃ T id, typeLookup (.type T) "__getitem__" = pure (some (.builtin id)) /\ s.TypeIs v T /\ wpAny (model X.prog X.w) X.A (getItem v (.ref sl)) (EP X ab σ Q) X.xe s
noncomputable def Cz (r : V -> Option Int -> Option Int -> Hp -> VK -> Prop) (te : TE) (tl th : TO) : TE := fun σ H Q => te σ H fun x H1 => tl σ H1 fun l H2 => th σ H2 fun u H3 => r x l u H3 Q
theorem qw {r : V -> Option Int -> Option Int -> Hp -> VK -> Prop} (hr : AT X r) (he : PE X e te) (hl : PO X lo tl) (hu : PO X hi th) : PE X (.Subscript e (.Slice lo hi none p2) pos) (Cz r te tl th) := by
 intro ab s σ H Q I h;refine Subscript_ (bQ (he ab s σ H _ I h) fun v s1 ⟨x, H1, I1, r1, q1⟩ => ?_);refine wpAny_Slice (bQ (hl ab s1 σ H1 _ I1 q1) fun vl s2 ⟨l, H2, I2, pl, q2⟩ => bQ (hu ab s2 σ H2 _ I2 q2) fun vu s3 ⟨u, H3, I3, pu, q3⟩ => ?_);rw [evalPart_none];refine wpAny_pure ?_;have I4 : Inv X ab σ H3 { s3 with heap := s3.heap.push { cls := .type "slice", data := .fields #[vl, vu, .none] } } := I3.kept (t' := s3.toks) fun b ob q => Heap.get?_push_of_some _ q
 obtain ⟨T, id, hT, ht, hg⟩ := hr ab { s3 with heap := s3.heap.push { cls := .type "slice", data := .fields #[vl, vu, .none] } } σ H3 x v vl vu l u s3.heap.objs.size Q I4 r1 (Heap.IsSliceOf.new ..) pl pu q3;show wpAny (model X.prog X.w) X.A (subscriptTail e (.Slice lo hi none p2) v (.ref s3.heap.objs.size)) (EP X ab σ Q) X.xe { s3 with heap := s3.heap.push { cls := .type "slice", data := .fields #[vl, vu, .none] } };exact tail_any (ops := [.ref s3.heap.objs.size, v]) ht hT hg (by with_unfolding_all rfl)
noncomputable def jJ (xs : List V) (lo hi : Option Int) : List V := (xs.drop (HT.sIx xs.length 0 lo)).take (HT.sIx xs.length xs.length hi - HT.sIx xs.length 0 lo)
theorem mh (xs : List V) (lo hi : Option Int) : (jJ xs lo hi).length <= xs.length := by
 unfold jJ;rw [List.length_take, List.length_drop];omega
noncomputable def Ch (K : PySem.W.Frag) : V -> Option Int -> Option Int -> Hp -> VK -> Prop := fun x lo hi H Q => ∃ a xs, x = .ref a /\ mq K H a xs /\
 ¬ (HT.sIx xs.length 0 lo = 0 /\ HT.sIx xs.length xs.length hi = xs.length) /\ ∀ p, H p = none -> Q (.ref p) (bq H p (.tup (jJ xs lo hi)))
theorem zv : AT X (Ch X.K) := by
 intro ab s σ H x v vl vu lo hi sl Q I rx hs pl pu h;obtain ⟨a, xs, rfl, hx, hw, q⟩ := h;cases rx;obtain ⟨its, r, ht, hz⟩ := I.tuple hx;have hlen : its.toArray.size = xs.length := by rw [List.size_toArray]; exact r.length.symm
 refine ⟨"tuple", _, PyProof.Rows.slot_tuple_getitem.lookup, ht.typeIs, ?_⟩;refine HT.getItem_tuple_cut ht hs pl pu (by rw [hlen]; exact hw) ?_ (by rw [hlen]; exact hz);rw [hlen];refine ⟨.ref s.heap.objs.size, _, I.laid (t' := s.toks) (o := .tup (jJ xs lo hi)) (fun b ob q => Heap.get?_push_of_some _ q) (Nat.le_refl _) ?_, rfl, q _ (I.hok.fresh (Nat.le_refl _))⟩;exact ⟨Nat.le_trans (mh xs lo hi) hz, _, (r.drop (HT.sIx xs.length 0 lo)).take (HT.sIx xs.length xs.length hi - HT.sIx xs.length 0 lo), IsTup.new _ _⟩
end
noncomputable def fD (n : Nat) (i : Int) : Option Nat := if 0 <= i then (if i < n then some i.toNat else none) else if -(n : Int) <= i then some (i + n).toNat else none
noncomputable def cy {α : Type} (xs : List α) (i : Int) : Option α := (fD xs.length i).bind fun j => xs[j]?
theorem oI {n : Nat} {i : Int} {j : Nat} (h : fD n i = some j) : seqIndex? i n = some j /\ j < n /\ -(n : Int) <= i /\ i < n := by
 unfold fD at h;by_cases h0 : 0 <= i
 ·rw [if_pos h0] at h
  by_cases h1 : i < n
  ·rw [if_pos h1] at h
   have e : i.toNat = j := Option.some.inj h;exact ⟨by rw [seqIndex_of h0 h1, e], by omega, by omega, h1⟩
  ·rw [if_neg h1] at h; cases h
 ·rw [if_neg h0] at h
  by_cases h1 : -(n : Int) <= i
  ·rw [if_pos h1] at h
   have e : (i + n).toNat = j := Option.some.inj h;exact ⟨by rw [seqIndex_neg oM h1, e], by omega, h1, by omega⟩
  ·rw [if_neg h1] at h; cases h
theorem oV {α : Type} {xs : List α} {i : Int} {v : α} (h : cy xs i = some v) : ∃ j, seqIndex? i xs.length = some j /\ xs[j]? = some v /\ j < xs.length /\ -(xs.length : Int) <= i /\ i < xs.length := by
 unfold cy at h;cases e : fD xs.length i with
 | none => rw [e] at h; cases h
 | some j =>
  rw [e] at h;obtain ⟨h1, h2, h3, h4⟩ := oI e;exact ⟨j, h1, h, h2, h3, h4⟩
theorem atI_nat {α : Type} {xs : List α} {j : Nat} {v : α} (h : xs[j]? = some v) : cy xs (j : Int) = some v := by
 have hj : j < xs.length := (List.getElem?_eq_some_iff.mp h).1;have e : fD xs.length (j : Int) = some j := by
  unfold fD;rw [if_pos oM, if_pos oM]; simp
 unfold cy; rw [e]; exact h
theorem atI_last {α : Type} (xs : List α) (v : α) : cy (xs ++ [v]) (-1) = some v := by
 have hl : (xs ++ [v]).length = xs.length + 1 := by simp
 have e : fD (xs ++ [v]).length (-1) = some xs.length := by
  unfold fD;rw [hl, if_neg dC, if_pos oM];congr 1;omega
 unfold cy;rw [e];show (xs ++ [v])[xs.length]? = some v;simp
noncomputable def lU (b : Expr) : Prop := ∀ o i, subscripted b false o i = operate [o, i] (getItem o i)
noncomputable def IxR (X : Cx) (r : R2) : Prop :=
 ∀ (value slice : Expr) (ab : List (Addr × Obj)) (s : Shared) (σ : St) (H : Hp) (x y : V) (v u : Value) (Q : VK), Inv X ab σ H s -> RelV x v -> RelV y u -> r x y H Q ->
  subscripted slice false v u = operate [v, u] (getItem v u) -> wpAny (model X.prog X.w) X.A (subscriptTail value slice v u) (EP X ab σ Q) X.xe s
noncomputable def AV (X : Cx) (id : String) (r : V -> List V -> Hp -> VK -> Prop) : Prop :=
 ∀ (ab : List (Addr × Obj)) (s : Shared) (σ : St) (H : Hp) (x : V) (xs : List V) (v : Value) (us : List Value) (Q : VK), Inv X ab σ H s -> RelV x v -> Vals xs us -> r x xs H Q ->
  wpAny (model X.prog X.w) X.A (call (.builtin id) (v :: us)) (EP X ab σ Q) X.xe s
section
variable {X : Cx} {a b : Expr} {ta tb : TE} {pos : Pos}
theorem IxR.or {r r' : R2} (h : IxR X r) (h' : IxR X r') : IxR X (fun x y H Q => r x y H Q \/ r' x y H Q) := by
 intro value slice ab s σ H x y v u Q I rx ry q hs;rcases q with q | q
 ·exact h value slice ab s σ H x y v u Q I rx ry q hs
 ·exact h' value slice ab s σ H x y v u Q I rx ry q hs
theorem xy {r : R2} (hr : IxR X r) (ha : PE X a ta) (hb : PE X b tb) (hs : lU b) : PE X (.Subscript a b pos) (kA r ta tb) := by
 intro ab s σ H Q I h;exact Subscript_ (xb ha hb I h fun v u s2 x y H2 I2 rx ry q => hr a b ab s2 σ H2 x y v u Q I2 rx ry q (hs _ _))
noncomputable def zG (K : PySem.W.Frag) : R2 := fun x y H Q => ∃ p xs i v, x = .ref p /\ y = .int i /\ fg K H p xs /\ cy xs i = some v /\ Q v H
noncomputable def zE (K : PySem.W.Frag) : R2 := fun x y H Q => ∃ p xs i v, x = .ref p /\ y = .int i /\ mq K H p xs /\ cy xs i = some v /\ Q v H
noncomputable def zF : R2 := fun x y H Q => ∃ z i c, x = .str z /\ y = .int i /\ z.length <= sizeLine /\ cy z.cps.toList i = some c /\ Q (.str ⟨#[c]⟩) H
theorem ix_list : IxR X (zG X.K) := by
 intro value slice ab s σ H x y v u Q I rx ry h hs;obtain ⟨p, xs, i, z, rfl, rfl, hq, he, q⟩ := h;cases rx;obtain ⟨t, rfl⟩ := ry;obtain ⟨its, r, pl, hz⟩ := I.list hq;obtain ⟨j, h1, h2, h3, h4, h5⟩ := oV he;obtain ⟨w, ew, rw'⟩ := r.get h2;have hl := r.length;have hn := jW;have fin : EP X ab σ Q w s := ⟨z, H, I, rw', q⟩;by_cases h0 : 0 <= i
 ·have hj : i.toNat = j := by
   rw [seqIndex_of h0 h5] at h1;exact Option.some.inj h1
  exact item_listR pl.isList h0 oM (by rw [hj]; simpa using ew) fin hs
 ·have hj : (i + (its.toArray.size : Int)).toNat = j := by
   rw [seqIndex_neg oM h4] at h1;rw [List.size_toArray, <- hl];exact Option.some.inj h1
  exact subscriptTail_builtinR (x := w) pl.isList.typeIs slot_list_getitem.lookup
   (wpAny_getItem_list_neg (Q := fun r s' => r = w /\ EP X ab σ Q r s') pl.isList oM (by rw [List.size_toArray] <;> omega) oM (by rw [hj]; simpa using ew) ⟨rfl, fin⟩) hs
theorem ix_tup : IxR X (zE X.K) := by
 intro value slice ab s σ H x y v u Q I rx ry h hs;obtain ⟨p, xs, i, z, rfl, rfl, hq, he, q⟩ := h;cases rx;obtain ⟨t, rfl⟩ := ry;obtain ⟨its, r, pl, hz⟩ := I.tuple hq;obtain ⟨j, h1, h2, h3, h4, h5⟩ := oV he;obtain ⟨w, ew, rw'⟩ := r.get h2;have hl := r.length;have hn := jW;have fin : EP X ab σ Q w s := ⟨z, H, I, rw', q⟩;exact subscriptTail_builtinR (x := w) pl.typeIs slot_tuple_getitem.lookup
  (getItem_tuple (j := j) (Q := fun r s' => r = w /\ EP X ab σ Q r s') pl oM oM (by rw [List.size_toArray, <- hl]; exact h1) (by simpa using ew) ⟨rfl, fin⟩) hs
theorem AD : IxR X zF := by
 intro value slice ab s σ H x y v u Q I rx ry h hs;obtain ⟨z, i, c, rfl, rfl, hz, he, q⟩ := h;obtain ⟨t, rfl⟩ := rx;obtain ⟨t', rfl⟩ := ry;obtain ⟨j, h1, h2, h3, h4, h5⟩ := oV he;have hl : z.cps.toList.length = z.length := by simp [Str.length]
 rw [hl] at h1 h4 h5;have hn := jW;exact tail_any (typeIs_str s z t) slot_str_getitem.lookup (getItem_str (c := c) (by
  have e1 : decide (i < -(2 ^ 63 : Int)) = false := decide_eq_false oM;have e2 : decide (i ≥ 2 ^ 63) = false := decide_eq_false oM;rw [e1, e2, Bool.or_false]) (by rw [h1]; simpa using h2) ⟨.str ⟨#[c]⟩, H, I.tok _, ⟨_, rfl⟩, q⟩) hs
noncomputable def BV (K : PySem.W.Frag) : R2 := fun x y H Q => zG K x y H Q \/ zE K x y H Q \/ zF x y H Q
theorem vD : IxR X (BV X.K) := ix_list.or (ix_tup.or AD)
theorem ug (its : List Value) (n j : Nat) (u : Value) : Obj.mapSeq (·.setIfInBounds j u) { cls := .type "list", data := .seq its.toArray n } = { cls := .type "list", data := .seq (its.set j u).toArray n } := by
 simp [Obj.mapSeq]
theorem Inv.lst {ab : List (Addr × Obj)} {σ : St} {H : Hp} {s : Shared} {p : Addr} {xs : List V} (I : Inv X ab σ H s) (h : H p = some (.lst xs)) :
  ∃ (its : List Value) (n : Nat), Vals xs its /\ s.heap.get? p = some { cls := .type "list", data := .seq its.toArray n } /\ xs.length <= sizeLine := by
 obtain ⟨z, its, n, r, e⟩ := I.hok p _ h;exact ⟨its, n, r, e, z⟩
theorem Inv.lstUpd {ab : List (Addr × Obj)} {σ : St} {H : Hp} {s : Shared} {p : Addr} {xs ys : List V} {its its' : List Value} {n n' : Nat} {f : Obj -> Obj} (I : Inv X ab σ H s) (h : H p = some (.lst xs))
  (ho : s.heap.get? p = some { cls := .type "list", data := .seq its.toArray n }) (hf : f { cls := .type "list", data := .seq its.toArray n } = { cls := .type "list", data := .seq its'.toArray n' }) (r : Vals ys its') (hz : ys.length <= sizeLine) (t : Nat) :
  Inv X ab σ (bq H p (.lst ys)) { s with heap := s.heap.update p f, toks := t } := by
 have e : (s.heap.update p f).get? p = some { cls := .type "list", data := .seq its'.toArray n' } := by
  rw [Heap.get?_update_self f ho (by rw [hf] <;> rfl), hf]
 refine I.write (x := p) (e := p) (by rw [h]; trivial) (.inl rfl) (fun b u hb q => (Heap.get?_update_other _ _ (Ne.symm hb)).trans q) ⟨_, e⟩ ?_;exact ⟨hz, its', n', r, e⟩
noncomputable def Be : V -> V -> V -> Hp -> (Hp -> Prop) -> Prop := fun o i v H Q => ∃ p xs k j, o = .ref p /\ i = .int k /\ H p = some (.lst xs) /\ fD xs.length k = some j /\ Q (bq H p (.lst (xs.set j v)))
theorem wd : AU X Be := by
 intro ab s σ H o i v ov iv u Q I ro ri rv h;obtain ⟨p, xs, k, j, rfl, rfl, hp, hj, q⟩ := h;cases ro;obtain ⟨t, rfl⟩ := ri;obtain ⟨its, n, r, ho, hz⟩ := I.lst hp;obtain ⟨h1, h2, h3, h4⟩ := oI hj;have hl := r.length;have hn := jW;have I' : Inv X ab σ (bq H p (.lst (xs.set j v))) { s with heap := s.heap.update p (Obj.mapSeq (·.setIfInBounds j u)) } :=
  I.lstUpd hp ho (ug its n j u) (r.set rv j) (by rw [List.length_set]; exact hz) s.toks
 by_cases h0 : 0 <= k
 ·have hk : k.toNat = j := by
   rw [seqIndex_of h0 h4] at h1;exact Option.some.inj h1
  exact ki_setAt ho h0 oM (by rw [List.size_toArray, <- hl]; exact h4) (by rw [hk]; exact ⟨_, I', q⟩)
 ·have hk : (k + (its.toArray.size : Int)).toNat = j := by
   rw [seqIndex_neg oM h3] at h1;rw [List.size_toArray, <- hl];exact Option.some.inj h1
  exact ki_setBack ho oM (by rw [List.size_toArray, <- hl]; exact h3) oM (by rw [hk]; exact ⟨_, I', q⟩)
theorem qe (lo hi : Option Int) (n : Nat) : (sliceBounds lo hi none n).1 = ((HT.sIx n 0 lo : Nat) : Int) /\ (sliceBounds lo hi none n).2.1 = ((HT.sIx n n hi : Nat) : Int) /\ (sliceBounds lo hi none n).2.2 = 1 := by
 refine ⟨?_, ?_, rfl⟩
 ·cases lo with
  | none => simp [sliceBounds, HT.sIx]
  | some i =>
   simp only [sliceBounds, HT.sIx, Option.getD_none, show (1 : Int) > 0 by decide, if_true];by_cases h : i < 0
   ·simp only [h, if_true] <;> omega
   ·simp only [h, if_false] <;> omega
 ·cases hi with
  | none => simp [sliceBounds, HT.sIx]
  | some i =>
   simp only [sliceBounds, HT.sIx, Option.getD_none, show (1 : Int) > 0 by decide, if_true];by_cases h : i < 0
   ·simp only [h, if_true] <;> omega
   ·simp only [h, if_false] <;> omega
theorem pU (its : List Value) (lo hi : Option Int) : slicePick its.toArray lo hi none = ((its.drop (HT.sIx its.length 0 lo)).take (HT.sIx its.length its.length hi - HT.sIx its.length 0 lo)).toArray := by
 obtain ⟨h1, h2, h3⟩ := qe lo hi its.toArray.size;unfold slicePick;rw [h1, h2, h3];simp only [sliceRange_one, pick_run, List.size_toArray] <;> rfl
noncomputable def Ci (K : PySem.W.Frag) : V -> Option Int -> Option Int -> Hp -> VK -> Prop := fun x lo hi H Q => ∃ a xs, x = .ref a /\ fg K H a xs /\ ∀ p, H p = none -> Q (.ref p) (bq H p (.lst (jJ xs lo hi)))
theorem ye : AT X (Ci X.K) := by
 intro ab s σ H x v vl vu lo hi sl Q I rx hs pl pu h;obtain ⟨a, xs, rfl, hx, q⟩ := h;cases rx;obtain ⟨its, r, ht, hz⟩ := I.list hx;have hlen := r.length;refine ⟨"list", _, slot_list_getitem.lookup, ht.isList.typeIs, ?_⟩;refine wpAny_getItem_list_slice ht.isList hs pl pu .none (by simp) ?_ (by rw [List.size_toArray] <;> omega);rw [pU, <- hlen];refine ⟨.ref s.heap.objs.size, _, I.laid (t' := s.toks) (o := .lst (jJ xs lo hi)) (fun b ob q => Heap.get?_push_of_some _ q) (Nat.le_refl _) ?_, rfl, q _ (I.hok.fresh (Nat.le_refl _))⟩;exact ⟨Nat.le_trans (mh xs lo hi) hz, _, 0, (r.drop (HT.sIx xs.length 0 lo)).take (HT.sIx xs.length xs.length hi - HT.sIx xs.length 0 lo), Heap.get?_push_size _ rfl⟩
theorem call_len_seq : CallR X (.builtin "len") (fun xs H Q => ∃ p ys, xs = [.ref p] /\ (fg X.K H p ys \/ mq X.K H p ys) /\ Q (.int ys.length) H) := by
 intro ab s σ H xs us Q I r h;obtain ⟨p, ys, rfl, hq, q⟩ := h;obtain ⟨u, rfl, rx⟩ := gD r;cases rx;have hn := jW;rcases hq with hq | hq
 ·obtain ⟨its, r', pl, hz⟩ := I.list hq
  have hlen := r'.length;exact Calls.call_len_list pl.isList (by simp only [List.size_toArray] <;> omega) ⟨.int ys.length, H, I.tok _, ⟨s.toks + 1, by rw [List.size_toArray, hlen]⟩, q⟩
 ·obtain ⟨its, r', pl, hz⟩ := I.tuple hq
  have hlen := r'.length;exact len_tuple pl (by simp only [List.size_toArray] <;> omega) ⟨.int ys.length, H, I.tok _, ⟨s.toks + 1, by rw [List.size_toArray, hlen]⟩, q⟩
theorem rk : CallR X (.builtin "len") (fun xs H Q => ∃ z, xs = [.str z] /\ z.length <= sizeLine /\ Q (.int z.length) H) := by
 intro ab s σ H xs us Q I r h;obtain ⟨z, rfl, hz, q⟩ := h;obtain ⟨u, rfl, t, rfl⟩ := gD r;have hn := jW;exact len_str oM ⟨.int z.length, H, I.tok _, ⟨_, rfl⟩, q⟩
theorem CallR.or {f : Value} {r r' : List V -> Hp -> VK -> Prop} (h : CallR X f r) (h' : CallR X f r') : CallR X f (fun xs H Q => r xs H Q \/ r' xs H Q) := by
 intro ab s σ H xs us Q I rs q;rcases q with q | q
 ·exact h ab s σ H xs us Q I rs q
 ·exact h' ab s σ H xs us Q I rs q
noncomputable def zn (K : PySem.W.Frag) (T : String) (x : V) (H : Hp) : Prop := match x with
 | .str _ => T = "str"
 | .int _ => T = "int"
 | .ref p => (T = "list" /\ ∃ xs, fg K H p xs) \/ (T = "tuple" /\ ∃ o, K.lookup p = some o /\ o.cls = .type "tuple" /\ o.dict = none) \/
   (T = "dict" /\ ((∃ kvs, H p = some (.dK kvs)) \/ ∃ kvs, H p = some (.dT kvs))) \/ (T = "set" /\ ∃ S n, H p = some (.set S n))
 | _ => False
theorem uH {ab : List (Addr × Obj)} {σ : St} {H : Hp} {s : Shared} {T : String} {x : V} {v : Value} (I : Inv X ab σ H s) (r : RelV x v) (ty : zn X.K T x H) :
  s.TypeIs v T /\ ∀ a, v = .ref a -> ∃ ob, s.heap.get? a = some ob /\ ob.dict = none := by
 cases x with
 | str z =>
  obtain ⟨t, rfl⟩ := r;cases (show T = "str" from ty);exact ⟨typeIs_str s z t, fun _ e => nomatch e⟩
 | int i =>
  obtain ⟨t, rfl⟩ := r;cases (show T = "int" from ty);exact ⟨typeIs_int s i t, fun _ e => nomatch e⟩
 | ref p =>
  cases r;rcases ty with ⟨rfl, xs, hq⟩ | ⟨rfl, o, hk, hc, hd⟩ | ⟨rfl, hk⟩ | ⟨rfl, S, n, hk⟩
  ·obtain ⟨its, _, pl, _⟩ := I.list hq
   refine ⟨pl.isList.typeIs, fun a e => ?_⟩;cases e;obtain ⟨o, n, e, c, hd, _⟩ := pl;exact ⟨o, e, hd⟩
  ·refine ⟨⟨o, I.kIn p o hk, hc⟩, fun a e => ?_⟩
   cases e;exact ⟨o, I.kIn _ o hk, hd⟩
  ·have z : ∃ o, s.heap.get? p = some o /\ o.ExactDict := by
    rcases hk with ⟨kvs, hk⟩ | ⟨kvs, hk⟩
    ·obtain ⟨_, _, _, _, o, _, _, e, ex, _⟩ := I.hok p _ hk
     exact ⟨o, e, ex⟩
    ·obtain ⟨_, _, _, _, o, _, _, e, ex, _⟩ := I.hok p _ hk
     exact ⟨o, e, ex⟩
   obtain ⟨o, e, ex⟩ := z;refine ⟨⟨o, e, ex.1⟩, fun a e2 => ?_⟩;cases e2;exact ⟨o, e, ex.2.1⟩
  ·obtain ⟨o, _, _, _, e, ex, _⟩ := I.hok p _ hk
   refine ⟨⟨o, e, ex.1⟩, fun a e2 => ?_⟩;cases e2;exact ⟨o, e, ex.2.1⟩
 | _ => exact False.elim ty
noncomputable def Cd (K : PySem.W.Frag) (T : String) (r : V -> List V -> Hp -> VK -> Prop) (to : TE) : TE := fun σ H Q => to σ H fun x H1 => zn K T x H1 /\ r x [] H1 Q
noncomputable def CB (K : PySem.W.Frag) (T : String) (r : V -> List V -> Hp -> VK -> Prop) (to : TE) (t : TA) : TE := fun σ H Q => to σ H fun x H1 => zn K T x H1 /\ t σ H1 fun xs H2 => r x xs H2 Q
variable {o e : Expr} {es : List Expr} {to : TE} {t : TA} {name : Str} {apos cpos : Pos} {T id : String} {r : V -> List V -> Hp -> VK -> Prop}
theorem zY (pa : PlainAttrs T) (slot : Slot T name id) (hty : typeOf (.builtin id) = pure (.type "method_descriptor")) (hm : AV X id r) (ho : PE X o to)
  (hbase : autoParam (attributeBase o name X.env (eval o X.env) = eval o X.env) bj._auto_1) (hline : autoParam ((apos.endLine == cpos.line) = true) bj._auto_1) : PE X (.Call (.Attribute o name apos) [] [] cpos) (Cd X.K T r to) := by
 intro ab s σ H Q I h;refine wpAny_Call_method0_late hbase hline (bQ (ho ab s σ H _ I h) fun v s1 ⟨x, H1, I1, r1, ty, q1⟩ => ?_);obtain ⟨h1, h2⟩ := uH I1 r1 ty;exact ⟨T, id, pa, slot, hty, h1, h2, Calls.callWith_builtin rfl (PySem.evalArgs_none (hm ab s1 σ H1 x [] v [] Q I1 r1 .nil q1))⟩
theorem xz (pa : PlainAttrs T) (slot : Slot T name id) (hty : typeOf (.builtin id) = pure (.type "method_descriptor")) (hm : AV X id r) (ho : PE X o to) (ha : PA X (e :: es) t)
  (hbase : autoParam (attributeBase o name X.env (eval o X.env) = eval o X.env) bj._auto_1)
  (hfew : autoParam (((backTo cpos (starEach (e :: es) X.env)).all (fun x => !x.1) && (backToKw cpos (keywordEach [] X.env)).all (fun x => x.1.isSome)
   && decide ((e :: es).length + ([] : List Keyword).length + (if ([] : List Keyword).isEmpty then 0 else 1) < 30)) = true) bj._auto_1)
  (hline : autoParam ((apos.endLine == cpos.line) = true) bj._auto_1) (hs : autoParam (starEach (e :: es) X.env = (false, eval e X.env) :: starEach es X.env) bj._auto_1) (hplain : autoParam ((backTo cpos (starEach es X.env)).any (·.1) = false) bj._auto_1) :
  PE X (.Call (.Attribute o name apos) (e :: es) [] cpos) (CB X.K T r to t) := by
 intro ab s σ H Q I h;refine wpAny_Call_method_late hbase hfew hline rfl (bQ (ho ab s σ H _ I h) fun v s1 ⟨x, H1, I1, r1, ty, q1⟩ => ?_);obtain ⟨h1, h2⟩ := uH I1 r1 ty;refine ⟨T, id, pa, slot, hty, h1, h2, ?_⟩;have hA := ha cpos ab s1 σ H1 _ I1 q1;rw [hs] at hA ⊢;refine Calls.callWith_builtin (by show (false || (backTo cpos (starEach es X.env)).any (·.1)) = false; rw [hplain] <;> rfl) (Calls.evalArgs_plain ?_);exact bQ hA fun us s2 ⟨vs, H2, I2, r2, q2⟩ => hm ab s2 σ H2 x vs v us Q I2 r1 r2 q2
end
noncomputable def B2 (X : Cx) (id : String) (r : V -> List V -> Hp -> VK -> Prop) : Prop :=
 ∀ (ab : List (Addr × Obj)) (s : Shared) (σ : St) (H : Hp) (x : V) (xs : List V) (v : Value) (us : List Value) (Q : VK), Inv X ab σ H s -> RelV x v -> Vals xs us -> r x xs H Q ->
  wpAny (model X.prog X.w) X.A (call (.builtin id) (v :: us)) (EP X ab σ Q) X.xe s
theorem Vals.one {x : V} {us : List Value} (h : Vals [x] us) : ∃ u, us = [u] /\ RelV x u := by
 cases h with
 | cons r h => cases h; exact ⟨_, rfl, r⟩
theorem Vals.reverse {xs : List V} {us : List Value} (h : Vals xs us) : Vals xs.reverse us.reverse := by
 induction h with
 | nil => exact .nil
 | cons r t ih => rw [List.reverse_cons, List.reverse_cons]; exact Vals.append ih (.cons r .nil)
section
variable {X : Cx} {ab : List (Addr × Obj)} {σ : St} {H : Hp} {s : Shared} {l b : Addr} {xs ys zs : List V}
theorem Inv.lset {its its' : List Value} {n : Nat} {f : Array Value -> Array Value} {t' : Nat} (I : Inv X ab σ H s) (hH : H l = some (.lst xs))
  (e : s.heap.get? l = some { cls := .type "list", data := .seq its.toArray n }) (hf : f its.toArray = its'.toArray) (hv : Vals ys its') (hz : ys.length <= sizeLine) :
  Inv X ab σ (bq H l (.lst ys)) { s with heap := s.heap.update l (Obj.mapSeq f), toks := t' } := by
 have q := PySem.IsL.update e f;rw [hf] at q;refine I.write (x := l) (e := l) (by rw [hH]; exact trivial) (.inl rfl) (fun b' u hb hu => (Heap.get?_update_other s.heap (Obj.mapSeq f) (Ne.symm hb)).trans hu) ⟨_, q⟩ ?_;exact ⟨hz, its', _, hv, q⟩
theorem Inv.lnew {its : List Value} {t' : Nat} (I : Inv X ab σ H s) (hv : Vals ys its) (hz : ys.length <= sizeLine) :
  Inv X ab σ (bq H s.heap.objs.size (.lst ys)) { s with heap := s.heap.push { cls := .type "list", data := .seq its.toArray }, toks := t' } :=
 I.laid (fun _ _ q => Heap.get?_push_of_some _ q) (Nat.le_refl _) ⟨hz, its, 0, hv, Heap.get?_push_size _ rfl⟩
theorem Inv.fresh (I : Inv X ab σ H s) : H s.heap.objs.size = none := I.hok.fresh (Nat.le_refl _)
theorem Inv.lstM (I : Inv X ab σ H s) (hH : H l = some (.lst xs)) : xs.length <= sizeLine /\ ∃ (its : List Value) (n : Nat), Vals xs its /\ xs.length = its.length /\ s.heap.get? l = some { cls := .type "list", data := .seq its.toArray n } := by
 obtain ⟨z, its, n, r, e⟩ := I.hok l _ hH;exact ⟨z, its, n, r, r.length, e⟩
theorem notLongL {n : Nat} (h : n <= sizeLine) : Builtin.List.listTooLong n = false := by
 unfold Builtin.List.listTooLong;exact decide_eq_false oM
end
section
variable {X : Cx}
noncomputable def yp : V -> List V -> Hp -> VK -> Prop := fun x vs H Q => ∃ l xs y, x = .ref l /\ vs = [y] /\ H l = some (.lst xs) /\ xs.length < sizeLine /\ Q .non (bq H l (.lst (xs ++ [y])))
theorem px : B2 X "list.append" yp := by
 intro ab s σ H x vs v us Q I rx rv h;obtain ⟨l, xs, y, rfl, rfl, hH, hz, q⟩ := h;cases rx;obtain ⟨u, rfl, ru⟩ := rv.one;obtain ⟨z, its, n, r, hl, e⟩ := I.lstM hH;refine call_meets F.slot_list_append ⟨_, e, rfl⟩ F.entry_list_append (F.args_list_append_2 _ _) (PySem.list_append l its.toArray n u (by rw [List.size_toArray]; omega)) ⟨e, ?_⟩;refine ⟨.non, _, I.lset (its' := its ++ [u]) hH e (by simp) (r.append (.cons ru .nil)) ?_, rfl, q⟩;rw [List.length_append, List.length_singleton];omega
noncomputable def yo : V -> List V -> Hp -> VK -> Prop := fun x vs H Q => ∃ l b xs zs, x = .ref l /\ vs = [.ref b] /\ H l = some (.lst xs) /\ H b = some (.lst zs) /\ xs.length + zs.length <= sizeLine /\ Q .non (bq H l (.lst (xs ++ zs)))
theorem vi : B2 X "list.extend" yo := by
 intro ab s σ H x vs v us Q I rx rv h;obtain ⟨l, b, xs, zs, rfl, rfl, hH, hB, hz, q⟩ := h;cases rx;obtain ⟨u, rfl, ru⟩ := rv.one;cases ru;obtain ⟨z, its, n, r, hl, e⟩ := I.lstM hH;obtain ⟨z2, its2, n2, r2, hl2, e2⟩ := I.lstM hB;have hsz : its.toArray.size + its2.toArray.size <= sizeLine := by rw [List.size_toArray, List.size_toArray]; omega
 have hlong : ¬ (!its.toArray.isEmpty && Builtin.List.listTooLong (its.toArray.size + its2.toArray.size)) = true := by
  rw [notLongL hsz, Bool.and_false];exact Bool.false_ne_true
 refine call_meets F.slot_list_extend ⟨_, e, rfl⟩ F.entry_list_extend (F.args_list_extend_2 _ _)
  (AutoSeq1.list_extend_list_list_0 l its.toArray n b its2.toArray n2 hlong (by rw [List.size_toArray]; omega) oM) ⟨e, e2, ?_⟩
 refine ⟨.non, _, I.lset (its' := its ++ its2) hH e (by simp) (r.append r2) ?_, rfl, q⟩;rw [List.length_append];omega
noncomputable def Cj : R2 := fun x y H Q => ∃ l b xs zs, x = .ref l /\ y = .ref b /\ H l = some (.lst xs) /\ H b = some (.lst zs) /\ xs.length + zs.length <= sizeLine /\ ∀ p, H p = none -> Q (.ref p) (bq H p (.lst (xs ++ zs)))
theorem Ad : fh X (binaryOp .Add) Cj := by
 intro ab s σ H x y v u Q I rx ry h;obtain ⟨l, b, xs, zs, rfl, rfl, hH, hB, hz, q⟩ := h;cases rx;cases ry;obtain ⟨z, its, n, r, hl, e⟩ := I.lstM hH;obtain ⟨z2, its2, n2, r2, hl2, e2⟩ := I.lstM hB;refine PySem.P.add_list e e2 ?_ (by rw [List.size_toArray, List.size_toArray]; omega);have ea : its.toArray ++ its2.toArray = (its ++ its2).toArray := by simp
 rw [ea];exact ⟨.ref _, _, I.lnew (t' := s.toks) (r.append r2) (by rw [List.length_append]; omega), rfl, q _ I.fresh⟩
end
section
variable {prog : Program} {w : World} {A : Around} {E : Value -> Shared -> Prop} {s : Shared}
end
section
variable {X : Cx}
end
end L2
namespace Att
open PySem PySem.W PySem.Calls PyProof.Rows
theorem nH {P : Params} {h : Heap} : ∀ (ns : List Int) (vs : List Value), WellAll P h vs (ns.map WData.int) -> IntsAre vs ns := by
 intro ns
 induction ns with
 | nil =>
  intro vs w;rw [List.map_nil] at w;cases w;exact .nil
 | cons n ns ih =>
  intro vs w;rw [List.map_cons] at w;cases w with
  | cons a b =>
   cases a;exact .cons _ _ (ih _ b)
theorem uN {l : OpenLaw} {n : Nat} (hn : l.most = some n) {P : Params} {h : Heap} {args : List WData} {vals : List Value}
  (hpre : l.row.toRowW.claim.pre args = true) (hwl : WellAll P h vals args) :
  ∃ a vs ns, vals = [Value.ref a] /\ args = [WData.list (ns.map WData.int)] /\ h.get? a = some { cls := .type "list", data := .seq vs.toArray } /\ IntsAre vs ns /\ ns.length <= n := by
 have hsh : WShape.hasAll [] args [.list .int] = true := (pre_splitW hpre).1;have hc : l.pre.holds [] { args := args } = true := (pre_splitW hpre).2;obtain ⟨d, r, rfl, h1, h2⟩ := hasAllW_cons hsh;obtain rfl := hasAllW_nil h2;obtain ⟨xs, rfl, h3⟩ := hasW_list h1;obtain ⟨ns, rfl⟩ := items_int h3;have hlen : ns.length <= n := by
  unfold OpenLaw.pre at hc;have h4 : (WTm.not (.lt (.lit (.int (n : Int))) (.len (.arg 0)))).holds [] { args := [.list (ns.map .int)] } = true := by
   have h4 := (holds_andW hc).1;rw [hn] at h4;exact h4
  have h5 := condW_of h4 (w_not (w_lt w_lit (w_len_list (w_arg rfl))));rw [List.length_map] at h5;refine Nat.le_of_not_lt fun q => ?_
  have q' : (n : Int) < ((ns.length : Nat) : Int) := by omega
  first
   | (rw [decide_eq_true q'] at h5; exact absurd h5 dC)
   | (simp at h5; omega)
 cases hwl with
 | cons w1 w2 =>
  cases w2;cases w1 with
  | list ho hall => exact ⟨_, _, ns, rfl, rfl, ho, nH ns _ hall, hlen⟩
theorem u6 (l : OpenLaw) (args : List WData) : l.row.toRowW.claim.post args (.bool true) args = true :=
 postW_of (r := l.row.toRowW) (X := (true == true))
  (show WShape.has [] (.bool true) .bool = true by first | rfl | decide | simp [WShape.has, WShape.arms, WShape.armsAll])
  (show (WTm.eq .res (.lit (.bool true))).value [] { args := args, res := some (.bool true), after := args } = some (.bool (true == true)) from w_eq_bool (w_res rfl) w_lit) rfl
theorem attach_call {l : OpenLaw} {n : Nat} {q : Program} {loose : List Str} {XP : (Str -> Option Value) -> Heap -> Prop} {YP : World -> Heap -> Prop} {d : DefRec}
  (hn : l.most = some n) (hdf : d.params.defaults = [])
  (call : ∀ (w : World) (s₀ s₁ : Shared) (mg mb : Str -> Option Value) (fa : Addr) (o : Obj) (pm cd doc : Value) (a : Addr) (vs : List Value) (ns : List Int),
   Ground q loose [] XP w s₀ mg mb s₁.heap -> YP w s₁.heap ->
   s₁.heap.get? fa = some o -> o.data = .func (docDef d.name d.params d.body d.scope pm cd doc) -> s₁.heap.CodeRec cd d.name -> mg d.name = some (.ref fa) ->
   s₁.heap.get? a = some { cls := .type "list", data := .seq vs.toArray } -> IntsAre vs ns -> ns.length <= n -> s₁.gens = #[] ->
   codeAny (model l.prog w) callerA (.call (.ref fa) ⟨[.ref a], []⟩) (fun r s' => r = .ok (.ret (.bool true)) /\ OldK s₁.heap s'.heap /\ s'.os = s₁.os /\ AllBare s'.gens) s₁) :
  WalkO q loose XP YP l.row.toRowW d [] (fun f vs => PySem.call f vs) := by
 intro w s₀ s₁ mg mb G Y fa o pm cd doc dV kV ho hd hcd hD hmg hg args vals as hpre hlay hrd hwl hlo;obtain rfl : dV = .none := Dflts.none hD hdf;obtain rfl : kV = .none := Dflts.noKw hD;obtain ⟨a, vs, ns, rfl, rfl, hobj, hints, hlen⟩ := uN hn hpre hwl;refine enter_call (codeAny_mono (call w s₀ s₁ mg mb fa o pm cd doc a vs ns G Y ho (fd_plain hd) hcd hmg hobj hints hlen hg) fun r s' hq => ?_);obtain ⟨rfl, h2, h3, h4⟩ := hq;exact ⟨.inl ⟨.bool true, .bool true, [], rfl, fun _ => rfl, .bool true, u6 l _, fun _ => ⟨List.Pairwise.nil, fun _ hm => (nomatch hm)⟩⟩, h2, h3, h4⟩
section
variable {prog : Program} {w : World} {A : Around} {E : Value -> Shared -> Prop} {s : Shared} {K : Frag}
end
end Att
namespace L2
open PySem PySem.Spec PyProof.Rows
theorem uF : ∀ {vs : List Value} {ns : List Int}, IntsAre vs ns -> Vals (ns.map V.int) vs := by
 intro vs ns h
 induction h with
 | nil => exact .nil
 | cons n t h ih => exact .cons ⟨t, rfl⟩ ih
noncomputable def xh (H : Hp) : Prop := ∀ b, H b = none \/ ∃ o xs, H b = some (.frz o (.lst xs))
theorem wF {P : Program} {w : World} {K : PySem.W.Frag} {mg mb : Str -> Option Value} {CX : ly} {k : Nat} {fa a : Addr} {fd : FuncData} {x : Str} {sp : Sp} {s₁ : Shared} {vs : List Value} {ns : List Int}
  (KX : K.In s₁.heap) (hns : s₁.heap.Ns mainGlobals mg) (hb : s₁.heap.Ns builtinsNs mb) (hbb : ∀ x : Str, x ≠ "__name__" -> mb x = bootBuiltins x) (hlim : s₁.heap.NoLimit) (hg : s₁.gens = #[])
  (ha : s₁.heap.get? a = some { cls := .type "list", data := .seq vs.toArray }) (hi : IntsAre vs ns) (hl : ns.length <= sizeLine) (hr : Room k callerA)
  (F : ∀ base : Heap, K.In base -> base.Ns mainGlobals mg -> cL P w K mg base CX k fa fd [x] sp) (hbind : ∀ (s : Shared) (u : Value), BindsTo s fd ⟨[u], []⟩ [(x, u)])
  (hsp : ∀ H : Hp, xh H -> fg K H a (ns.map V.int) -> sp [.ref a] H (fun v _ => v = .bl true) fun _ _ _ => False)
  (hCX : ∀ H e s', CX [] H s₁ (fun _ _ _ => False) e s' -> False) :
  codeAny (model P w) callerA (.call (.ref fa) ⟨[.ref a], []⟩) (fun r s' => r = .ok (.ret (.bool true)) /\ OldK s₁.heap s'.heap /\ s'.os = s₁.os /\ AllBare s'.gens) s₁ := by
 have rv := uF hi;have lenV := hi.length
 -- from an abstract heap in which nothing but the script may be tracked
 have core : ∀ H : Hp, xh H -> fg K H a (ns.map V.int) -> HOk P w H s₁.heap -> (∀ b, H b ≠ none -> b = a) -> (H a ≠ none -> K.lookup a = none) ->
   codeAny (model P w) callerA (.call (.ref fa) ⟨[.ref a], []⟩) (fun r s' => r = .ok (.ret (.bool true)) /\ OldK s₁.heap s'.heap /\ s'.os = s₁.os /\ AllBare s'.gens) s₁ := by
  intro H hO hS hok hA hK;have base_of : ∀ {b : Addr} {o : Obj}, s₁.heap.get? b = some o -> H b = none -> (kt s₁.heap H).get? b = some o := fun e n => wT e n
  have noA : ∀ {b : Addr} {o : Obj} {es : Array DictEntry} {ep : Nat}, s₁.heap.get? b = some o -> o.data = .dict es ep -> H b = none := fun {b o es ep} e d => by
   cases q : H b with
   | none => rfl
   | some u =>
    have e' : b = a := hA b (by rw [q]; simp);subst e';rw [ha] at e; cases e;have d' : Data.seq vs.toArray _ = Data.dict es ep := d;cases d'
  have nsK : ∀ {b : Addr} {m : Str -> Option Value}, s₁.heap.Ns b m -> (kt s₁.heap H).Ns b m := fun {b m} ⟨o, es, ep, e, d, r⟩ => ⟨o, es, ep, base_of e (noA e d), d, r⟩
  have hKb : K.In (kt s₁.heap H) := fun b o e => base_of (KX b o e) (by
   cases q : H b with
   | none => rfl
   | some u =>
    have e' : b = a := hA b (by rw [q]; simp);subst e';rw [hK (by rw [q]; simp)] at e; cases e)
  have hM : Mod K mg (kt s₁.heap H) := ⟨hKb, nsK hns, ⟨mb, nsK hb, hbb⟩, let ⟨mc, h1, h2⟩ := hlim; ⟨mc, nsK h1, h2⟩⟩;have e0 : uC P w K mg (kt s₁.heap H) callerA [] s₁ H := ⟨rfl, hM, fun b o e => yK e, Nat.le_of_eq (vG _ _), trivial, fun b hb => absurd (show b ∈ ([] : List Addr) from hb) (by simp), hok, .of_eq hg⟩;refine codeAny_mono ((F _ hKb (nsK hns)).run callerA [] s₁ H ⟨[.ref a], []⟩ [.ref a] [.ref a] _ _ hr e0 (hbind s₁ (.ref a)) (.cons rfl .nil) (hsp H hO hS)) fun r s' h => ?_
  cases r with
  | error e => exact (hCX H e s' h).elim
  | ok fl =>
   cases fl with
   | next => exact False.elim h
   | brk => exact False.elim h
   | cont => exact False.elim h
   | ret u =>
    obtain ⟨v, H', os, bare, un, hok', r', q⟩ := h;have q' : v = .bl true := q;subst q';obtain rfl : u = Value.bool true := r';refine ⟨rfl, OldK.of_keep fun b o e => ?_, os, bare⟩;cases q : H b with
    | none => exact un.keep b o e q (by intro z; exact absurd (show b ∈ ([] : List Addr) from z) (by simp)) (by simp)
    | some u =>
     rcases hO b with z | ⟨ob, xs, z⟩
     ·rw [q] at z; cases z
     ·have z2 := un.frzs b ob _ z
      obtain ⟨e1, _⟩ := hok b _ z;obtain ⟨e2, _⟩ := hok' b _ z2;rw [e] at e1; cases e1;exact e2
 cases hk : K.lookup a with
 | some o =>
  -- the script is one of the module's own objects
  have e := KX a o hk;rw [ha] at e;cases e;refine core (fun _ => none) (fun _ => .inl rfl) (.inr ⟨_, vs.toArray, _, hk, rfl, rfl, rfl, by rw [List.size_toArray, lenV]; exact hl, by simpa using rv⟩) (fun b u z => by have z' : (none : Option HO) = some u := z; cases z') (fun b z => absurd rfl z) fun z => absurd rfl z
 | none =>
  refine core (fun b => if b = a then some (.frz { cls := .type "list", data := .seq vs.toArray } (.lst (ns.map V.int))) else none) (fun b => ?_) (.inl (.inr ⟨{ cls := .type "list", data := .seq vs.toArray }, if_pos rfl⟩)) (fun b u z => ?_) (fun b z => ?_) fun _ => hk
  ·by_cases hb : b = a
   ·exact .inr ⟨_, _, if_pos hb⟩
   ·exact .inl (if_neg hb)
  ·by_cases hb : b = a
   ·have z' := (if_pos hb).symm.trans z
    cases z';subst hb;exact ⟨ha, by rw [List.length_map]; exact hl, vs, _, rv, ha⟩
   ·have z' := (if_neg hb).symm.trans z
    cases z'
  ·by_cases hb : b = a
   ·exact hb
   ·exact absurd (if_neg hb) z
noncomputable abbrev C3 {K : PySem.W.Frag} {h : Heap} (_ : K.In h) : PySem.W.Frag := K
theorem walk_of {l : PySem.W.OpenLaw} {n k : Nat} {q : Program} {loose : List Str} {XP : (Str -> Option Value) -> Heap -> Prop} {YP : World -> Heap -> Prop} {d : DefRec} {K : Params -> PySem.W.Frag} {CX : World -> ly} {sp : World -> Sp} {x : Str}
  (hn : l.most = some n) (hn2 : n <= sizeLine) (hdf : d.params.defaults = []) (hr : Room k callerA)
  (hY : ∀ (w : World) (h : Heap), YP w h -> (K w.params).In h)
  (F : ∀ (w : World) (mg : Str -> Option Value) (fa : Addr) (h : Heap), (K w.params).In h -> h.Ns mainGlobals mg -> mg d.name = some (.ref fa) ->
   ∃ fd : FuncData, (∀ (s : Shared) (u : Value), BindsTo s fd ⟨[u], []⟩ [(x, u)]) /\
    ∀ base : Heap, (K w.params).In base -> base.Ns mainGlobals mg -> cL l.prog w (K w.params) mg base (CX w) k fa fd [x] (sp w))
  (hsp : ∀ (w : World) (H : Hp) (a : Addr) (ns : List Int), ns.length <= n -> xh H -> fg (K w.params) H a (ns.map V.int) -> sp w [.ref a] H (fun v _ => v = .bl true) fun _ _ _ => False)
  (hCX : ∀ (w : World) (H : Hp) (s : Shared) (e : Value) (s' : Shared), CX w [] H s (fun _ _ _ => False) e s' -> False) :
  PySem.W.WalkO q loose XP YP l.row.toRowW d [] (fun f vs => PySem.call f vs) := by
 refine Att.attach_call hn hdf fun w s₀ s₁ mg mb fa o pm cd doc a vs ns G Y ho hd hcd hmg hobj hints hlen hg => ?_
 have KX := hY w _ Y;obtain ⟨fd, hb, hF⟩ := F w mg fa _ KX G.T.g hmg;exact wF KX G.T.g G.T.b G.T.builtins G.T.nolimit hg hobj hints (Nat.le_trans hlen hn2) hr hF hb (fun H hO hS => hsp w H a ns hlen hO hS) fun H e s' => hCX w H s₁ e s'
noncomputable def j7 (s : Stmt) : Arguments := match s with
 | .FunctionDef _ a _ _ _ _ _ _ _ _ => a
 | _ => { posonlyargs := [], args := [], vararg := none, kwonlyargs := [], kw_defaults := [], kwarg := none, defaults := [] }
noncomputable def h8 (s : Stmt) : List Stmt := match s with
 | .FunctionDef _ _ b _ _ _ _ _ _ _ => b
 | _ => []
noncomputable def bh (s : Stmt) : Scope := match s with
 | .FunctionDef _ _ _ _ _ _ sc _ _ _ => sc
 | _ => { kind := .function, names := [], isGenerator := false, isCoroutine := false }
noncomputable abbrev dD : ly := fun _ _ _ _ _ _ => False
noncomputable abbrev E0 : XK := fun _ _ _ => False
theorem Bt {X : Cx} : rY dD X E0 := fun _ _ _ _ _ _ _ h => h.elim
structure Fun (K : PySem.W.Frag) (x qual : Str) (st : Stmt) (f : Addr) (fd : FuncData) : Prop where
 ex : ∃ (oc : Value) (od : Option Addr) (kV doc pm : Value) (an : Option Addr) (cdv ct : Value) (osl : Array (Option Value)),
  fd = fnOf x qual (j7 st) (h8 st) (bh st) .none kV doc pm an cdv ct /\ K.lookup f = some ⟨oc, od, .func fd, osl⟩ /\ codeIn K cdv qual = true
 kp : keepIn K (.ref f) = true
section
variable {P : Program} {w : World} {K : PySem.W.Frag} {mg : Str -> Option Value} {base : Heap}
theorem Fun.ok {x qual : Str} {st : Stmt} {f : Addr} {fd : FuncData} {N ps : List Str} {k : Nat} {sp : Sp} (F : Fun K x qual st f fd) (S : bO N ps (bh st)) (len : ∀ vs H Q E, sp vs H Q E -> vs.length = ps.length)
  (hbody : ∀ (cdv : Value) (A : Around) (outer : List Env) (s : Shared) (H : Hp) (vs : List V) (Q : VK) (E : XK), Room k (A.deeper (envOfC qual (bh st) s.heap.objs.size f cdv)) -> sp vs H Q E ->
   ∃ t, PSs (nc dD P w K mg base N qual (bh st) f cdv A outer s H E).nox (h8 st) t /\ t { nx := fun _ H' => Q .non H', rt := Q } (start N vs) H) : cL P w K mg base dD (k + 1) f fd ps sp := by
 obtain ⟨oc, od, kV, doc, pm, an, cdv, ct, osl, rfl, lk, hcd⟩ := F.ex;refine BJ lk hcd S len fun A outer s H vs Q E hr hsp => ?_
 obtain ⟨t, h, q⟩ := hbody cdv A outer s H vs Q E hr hsp;exact ⟨t, h.nox, q⟩
theorem Fun.binds {x qual : Str} {st : Stmt} {f : Addr} {fd : FuncData} {ps : List Str} (F : Fun K x qual st f fd)
  (h : ∀ (kV doc pm : Value) (an : Option Addr) (cdv ct : Value) (us : List Value), us.length = ps.length -> bindArgs (fnOf x qual (j7 st) (h8 st) (bh st) .none kV doc pm an cdv ct) ⟨us, []⟩ = pure (ps.zip us)) : Binds K fd ps [] := by
 obtain ⟨oc, od, kV, doc, pm, an, cdv, ct, osl, rfl, lk, hcd⟩ := F.ex;exact .all (h kV doc pm an cdv ct)
theorem cC {x qual : Str} {st : Stmt} {f : Addr} {oc : Value} {od an : Option Addr} {osl : Array (Option Value)} {kV doc pm cdv ct : Value} (l : K.lookup f = some ⟨oc, od, .func (fnOf x qual (j7 st) (h8 st) (bh st) .none kV doc pm an cdv ct), osl⟩)
  (c : codeIn K cdv qual = true) (k : keepIn K (.ref f) = true) : Fun K x qual st f (fnOf x qual (j7 st) (h8 st) (bh st) .none kV doc pm an cdv ct) := ⟨⟨oc, od, kV, doc, pm, an, cdv, ct, osl, rfl, l, c⟩, k⟩
end
theorem small1000 {n : Nat} (h : n <= 1000) : n < sizeLine := Nat.lt_of_le_of_lt h dC
section
variable {X : Cx}
end
end L2
set_option maxHeartbeats 4000000
namespace DD
open PySem L2
noncomputable def NT : HO -> Prop
 | .tup _ => False
 | _ => True
inductive D where
 | hole | cell | node (a : Addr) (vs : List V) | pin (a : Addr) (o : {o : HO // NT o})
 | non | bl (b : Bool) | int (i : Int) | str (x : Str) | ty (n : String) | cls (a : Addr)
 | lst (own : Bool) (xs : List D)
 | tup (xs : List D)
 | obj (own : Bool) (C : Addr) (ks : List Str) (xs : List D)
 | dct (own : Bool) (ks : List (List bi)) (xs : List D)
noncomputable def FL (K : PySem.W.Frag) (F : Addr -> Prop) (H : Hp) (a : Addr) (vs : List V) : Prop := (F a /\ Rd H a (.lst vs)) \/ ∀ H', fg K H' a vs
noncomputable def FT (K : PySem.W.Frag) (F : Addr -> Prop) (H : Hp) (a : Addr) (vs : List V) (L : List Addr) : Prop := (F a /\ H a = some (.tup vs)) \/ ((∀ H' : Hp, False) /\ L = [])
mutual
noncomputable def Ow (K : PySem.W.Frag) (F : Addr -> Prop) (H : Hp) : D -> V -> List Addr -> Prop
 | .hole, _, L => L = []
 | .cell, v, L => ∃ (a : Addr) (o : {o : HO // NT o}), v = .ref a /\ H a = some o.1 /\ L = [a]
 | .node a vs, v, L => v = .ref a /\ H a = some (.lst vs) /\ L = [a]
 | .pin a o, v, L => v = .ref a /\ H a = some o.1 /\ L = [a]
 | .non, v, L => v = .non /\ L = []
 | .bl b, v, L => v = .bl b /\ L = []
 | .int i, v, L => v = .int i /\ L = []
 | .str x, v, L => v = .str x /\ L = []
 | .ty x, v, L => v = .ty x /\ L = []
 | .cls x, v, L => v = .ref x /\ L = []
 | .lst true xs, v, L => ∃ a vs L', v = .ref a /\ H a = some (.lst vs) /\ OwL K F H xs vs L' /\ L = a :: L'
 | .lst false xs, v, L => ∃ a vs, v = .ref a /\ FL K F H a vs /\ OwL K F H xs vs [] /\ L = []
 | .tup xs, v, L => ∃ a vs, v = .ref a /\ FT K F H a vs L /\ OwL K F H xs vs L
 | .obj true C ks xs, v, L => ∃ a dx vs L', v = .ref a /\ H a = some (.ins C dx (ks.zip vs)) /\ ks.length = vs.length /\ OwL K F H xs vs L' /\ L = a :: L'
 | .obj false C ks xs, v, L => ∃ a dx vs, v = .ref a /\ H a = some (.ins C dx (ks.zip vs)) /\ F a /\ ks.length = vs.length /\ OwL K F H xs vs [] /\ L = []
 | .dct true ks xs, v, L => ∃ a vs L', v = .ref a /\ H a = some (.dT (ks.zip vs)) /\ ks.length = vs.length /\ OwL K F H xs vs L' /\ L = a :: L'
 | .dct false ks xs, v, L => ∃ a vs, v = .ref a /\ H a = some (.dT (ks.zip vs)) /\ F a /\ ks.length = vs.length /\ OwL K F H xs vs [] /\ L = []
noncomputable def OwL (K : PySem.W.Frag) (F : Addr -> Prop) (H : Hp) : List D -> List V -> List Addr -> Prop
 | [], vs, L => vs = [] /\ L = []
 | x :: xs, vs, L => ∃ v ws L1 L2, vs = v :: ws /\ Ow K F H x v L1 /\ OwL K F H xs ws L2 /\ L = L1 ++ L2
end
mutual
noncomputable def D.fz : D -> D
 | .lst _ xs => .lst false (D.fzL xs)
 | .tup xs => .tup (D.fzL xs)
 | .obj _ C ks xs => .obj false C ks (D.fzL xs)
 | .dct _ ks xs => .dct false ks (D.fzL xs)
 | .cell => .hole
 | .node _ _ => .hole
 | .pin _ _ => .hole
 | d => d
noncomputable def D.fzL : List D -> List D
 | [] => []
 | x :: xs => D.fz x :: D.fzL xs
end
section
variable {K : PySem.W.Frag} {F F' : Addr -> Prop} {H H' : Hp}
mutual
theorem Ow.dom : ∀ {d : D} {v : V} {L : List Addr}, Ow K F H d v L -> ∀ a ∈ L, ∃ o, H a = some o
 | .hole, _, _, h, a, ha => by simp only [Ow] at h; subst h; cases ha
 | .cell, _, _, h, a, ha => by simp only [Ow] at h; obtain ⟨b, o, rfl, e, rfl⟩ := h; rw [List.mem_singleton.mp ha]; exact ⟨o, e⟩
 | .node _ _, _, _, h, a, ha => by simp only [Ow] at h; obtain ⟨rfl, e, rfl⟩ := h; rw [List.mem_singleton.mp ha]; exact ⟨_, e⟩
 | .pin _ _, _, _, h, a, ha => by simp only [Ow] at h; obtain ⟨rfl, e, rfl⟩ := h; rw [List.mem_singleton.mp ha]; exact ⟨_, e⟩
 | .non, _, _, h, a, ha => by simp only [Ow] at h; rw [h.2] at ha; cases ha
 | .bl _, _, _, h, a, ha => by simp only [Ow] at h; rw [h.2] at ha; cases ha
 | .int _, _, _, h, a, ha => by simp only [Ow] at h; rw [h.2] at ha; cases ha
 | .str _, _, _, h, a, ha => by simp only [Ow] at h; rw [h.2] at ha; cases ha
 | .ty _, _, _, h, a, ha => by simp only [Ow] at h; rw [h.2] at ha; cases ha
 | .cls _, _, _, h, a, ha => by simp only [Ow] at h; rw [h.2] at ha; cases ha
 | .lst true xs, _, _, h, a, ha => by
  simp only [Ow] at h;obtain ⟨b, vs, L', rfl, e, r, rfl⟩ := h;rcases List.mem_cons.mp ha with rfl | ha
  ·exact ⟨_, e⟩
  ·exact OwL.dom r a ha
 | .lst false xs, _, _, h, a, ha => by simp only [Ow] at h; obtain ⟨_, _, _, _, _, rfl⟩ := h; cases ha
 | .tup xs, _, _, h, a, ha => by simp only [Ow] at h; obtain ⟨_, _, _, _, r⟩ := h; exact OwL.dom r a ha
 | .obj true C ks xs, _, _, h, a, ha => by
  simp only [Ow] at h;obtain ⟨b, dx, vs, L', rfl, e, _, r, rfl⟩ := h;rcases List.mem_cons.mp ha with rfl | ha
  ·exact ⟨_, e⟩
  ·exact OwL.dom r a ha
 | .obj false C ks xs, _, _, h, a, ha => by simp only [Ow] at h; obtain ⟨_, _, _, _, _, _, _, _, rfl⟩ := h; cases ha
 | .dct true ks xs, _, _, h, a, ha => by
  simp only [Ow] at h;obtain ⟨b, vs, L', rfl, e, _, r, rfl⟩ := h;rcases List.mem_cons.mp ha with rfl | ha
  ·exact ⟨_, e⟩
  ·exact OwL.dom r a ha
 | .dct false ks xs, _, _, h, a, ha => by simp only [Ow] at h; obtain ⟨_, _, _, _, _, _, _, rfl⟩ := h; cases ha
theorem OwL.dom : ∀ {xs : List D} {vs : List V} {L : List Addr}, OwL K F H xs vs L -> ∀ a ∈ L, ∃ o, H a = some o
 | [], _, _, h, a, ha => by simp only [OwL] at h; rw [h.2] at ha; cases ha
 | x :: xs, _, _, h, a, ha => by
  simp only [OwL] at h;obtain ⟨v, ws, L1, L2, rfl, h1, h2, rfl⟩ := h;rcases List.mem_append.mp ha with ha | ha
  ·exact Ow.dom h1 a ha
  ·exact OwL.dom h2 a ha
end
noncomputable def Ext (F : Addr -> Prop) (H : Hp) (F' : Addr -> Prop) (H' : Hp) : Prop := ∀ a, F a -> F' a /\ H' a = H a
theorem Ext.refl : Ext F H F H := fun _ h => ⟨h, rfl⟩
theorem Ext.trans {F'' : Addr -> Prop} {H'' : Hp} (a : Ext F H F' H') (b : Ext F' H' F'' H'') : Ext F H F'' H'' := fun x h =>
 ⟨(b x (a x h).1).1, ((b x (a x h).1).2).trans (a x h).2⟩
theorem Rd.eq {a : Addr} {u : HO} (h : Rd H a u) (e : H' a = H a) : Rd H' a u := by
 rcases h with h | ⟨o, h⟩
 ·exact .inl (e.trans h)
 ·exact .inr ⟨o, e.trans h⟩
theorem FL.ext {a : Addr} {vs : List V} (h : FL K F H a vs) (x : Ext F H F' H') : FL K F' H' a vs := by
 rcases h with ⟨f, r⟩ | h
 ·exact .inl ⟨(x a f).1, Rd.eq r (x a f).2⟩
 ·exact .inr h
theorem FT.ext {a : Addr} {vs : List V} {L : List Addr} (h : FT K F H a vs L) (x : Ext F H F' H') : FT K F' H' a vs L := by
 rcases h with ⟨f, r⟩ | h
 ·exact .inl ⟨(x a f).1, (x a f).2.trans r⟩
 ·exact .inr h
theorem FT.nil {a : Addr} {vs : List V} {L : List Addr} (h : FT K F H a vs L) : FT K F H a vs [] := by
 rcases h with h | h
 ·exact .inl h
 ·exact .inr ⟨h.1, rfl⟩
theorem FL.sq {a : Addr} {vs : List V} (h : FL K F H a vs) : fg K H a vs := by
 rcases h with ⟨_, r⟩ | h
 ·exact .inl r
 ·exact h H
theorem FT.sq {a : Addr} {vs : List V} {L : List Addr} (h : FT K F H a vs L) : mq K H a vs := by
 rcases h with ⟨_, r⟩ | h
 ·exact .inl (.inl r)
 ·exact (h.1 H).elim
mutual
theorem Ow.mono (x : Ext F H F' H') : ∀ {d : D} {v : V} {L : List Addr}, Ow K F H d v L -> (∀ a ∈ L, H' a = H a) -> Ow K F' H' d v L
 | .hole, _, _, h, _ => by simp only [Ow] at h ⊢; exact h
 | .cell, _, _, h, k => by simp only [Ow] at h ⊢; obtain ⟨b, o, rfl, e, rfl⟩ := h; exact ⟨b, o, rfl, (k b (by simp)).trans e, rfl⟩
 | .node _ _, _, _, h, k => by simp only [Ow] at h ⊢; obtain ⟨rfl, e, rfl⟩ := h; exact ⟨rfl, (k _ (by simp)).trans e, rfl⟩
 | .pin _ _, _, _, h, k => by simp only [Ow] at h ⊢; obtain ⟨rfl, e, rfl⟩ := h; exact ⟨rfl, (k _ (by simp)).trans e, rfl⟩
 | .non, _, _, h, _ => by simp only [Ow] at h ⊢; exact h
 | .bl _, _, _, h, _ => by simp only [Ow] at h ⊢; exact h
 | .int _, _, _, h, _ => by simp only [Ow] at h ⊢; exact h
 | .str _, _, _, h, _ => by simp only [Ow] at h ⊢; exact h
 | .ty _, _, _, h, _ => by simp only [Ow] at h ⊢; exact h
 | .cls _, _, _, h, _ => by simp only [Ow] at h ⊢; exact h
 | .lst true xs, _, _, h, k => by
  simp only [Ow] at h ⊢;obtain ⟨b, vs, L', rfl, e, r, rfl⟩ := h;exact ⟨b, vs, L', rfl, (k b (by simp)).trans e, OwL.mono x r fun a ha => k a (by simp [ha]), rfl⟩
 | .lst false xs, _, _, h, k => by
  simp only [Ow] at h ⊢;obtain ⟨b, vs, rfl, e, r, rfl⟩ := h;exact ⟨b, vs, rfl, e.ext x, OwL.mono x r (fun a ha => by cases ha), rfl⟩
 | .tup xs, _, _, h, k => by
  simp only [Ow] at h ⊢;obtain ⟨b, vs, rfl, e, r⟩ := h;exact ⟨b, vs, rfl, e.ext x, OwL.mono x r k⟩
 | .obj true C ks xs, _, _, h, k => by
  simp only [Ow] at h ⊢;obtain ⟨b, dx, vs, L', rfl, e, el, r, rfl⟩ := h;exact ⟨b, dx, vs, L', rfl, (k b (by simp)).trans e, el, OwL.mono x r fun a ha => k a (by simp [ha]), rfl⟩
 | .obj false C ks xs, _, _, h, k => by
  simp only [Ow] at h ⊢;obtain ⟨b, dx, vs, rfl, e, f, el, r, rfl⟩ := h;exact ⟨b, dx, vs, rfl, (x b f).2.trans e, (x b f).1, el, OwL.mono x r (fun a ha => by cases ha), rfl⟩
 | .dct true ks xs, _, _, h, k => by
  simp only [Ow] at h ⊢;obtain ⟨b, vs, L', rfl, e, el, r, rfl⟩ := h;exact ⟨b, vs, L', rfl, (k b (by simp)).trans e, el, OwL.mono x r fun a ha => k a (by simp [ha]), rfl⟩
 | .dct false ks xs, _, _, h, k => by
  simp only [Ow] at h ⊢;obtain ⟨b, vs, rfl, e, f, el, r, rfl⟩ := h;exact ⟨b, vs, rfl, (x b f).2.trans e, (x b f).1, el, OwL.mono x r (fun a ha => by cases ha), rfl⟩
theorem OwL.mono (x : Ext F H F' H') : ∀ {xs : List D} {vs : List V} {L : List Addr}, OwL K F H xs vs L -> (∀ a ∈ L, H' a = H a) -> OwL K F' H' xs vs L
 | [], _, _, h, _ => by simp only [OwL] at h ⊢; exact h
 | y :: xs, _, _, h, k => by
  simp only [OwL] at h ⊢;obtain ⟨v, ws, L1, L2, rfl, h1, h2, rfl⟩ := h;exact ⟨v, ws, L1, L2, rfl, Ow.mono x h1 fun a ha => k a (by simp [ha]), OwL.mono x h2 fun a ha => k a (by simp [ha]), rfl⟩
end
mutual
theorem Ow.fz (fs : ∀ a, F a -> F' a) : ∀ {d : D} {v : V} {L : List Addr}, Ow K F H d v L -> (∀ a ∈ L, F' a) -> Ow K F' H d.fz v []
 | .hole, _, _, h, _ => by simp only [Ow, D.fz] at h ⊢
 | .cell, _, _, h, k => by simp only [Ow, D.fz] at h ⊢
 | .node _ _, _, _, h, k => by simp only [Ow, D.fz] at h ⊢
 | .pin _ _, _, _, h, k => by simp only [Ow, D.fz] at h ⊢
 | .non, _, _, h, _ => by simp only [Ow, D.fz] at h ⊢; exact ⟨h.1, trivial⟩
 | .bl _, _, _, h, _ => by simp only [Ow, D.fz] at h ⊢; exact ⟨h.1, trivial⟩
 | .int _, _, _, h, _ => by simp only [Ow, D.fz] at h ⊢; exact ⟨h.1, trivial⟩
 | .str _, _, _, h, _ => by simp only [Ow, D.fz] at h ⊢; exact ⟨h.1, trivial⟩
 | .ty _, _, _, h, _ => by simp only [Ow, D.fz] at h ⊢; exact ⟨h.1, trivial⟩
 | .cls _, _, _, h, _ => by simp only [Ow, D.fz] at h ⊢; exact ⟨h.1, trivial⟩
 | .lst true xs, _, _, h, k => by
  simp only [Ow, D.fz] at h ⊢;obtain ⟨b, vs, L', rfl, e, r, rfl⟩ := h;exact ⟨b, vs, rfl, .inl ⟨k b (by simp), .inl e⟩, OwL.fz fs r fun a ha => k a (by simp [ha]), trivial⟩
 | .lst false xs, _, _, h, k => by
  simp only [Ow, D.fz] at h ⊢;obtain ⟨b, vs, rfl, e, r, rfl⟩ := h;exact ⟨b, vs, rfl, e.ext (fun a f => ⟨fs a f, rfl⟩), OwL.fz fs r (fun a ha => by cases ha), trivial⟩
 | .tup xs, _, _, h, k => by
  simp only [Ow, D.fz] at h ⊢;obtain ⟨b, vs, rfl, e, r⟩ := h;exact ⟨b, vs, rfl, (e.ext (fun a f => ⟨fs a f, rfl⟩)).nil, OwL.fz fs r k⟩
 | .obj true C ks xs, _, _, h, k => by
  simp only [Ow, D.fz] at h ⊢;obtain ⟨b, dx, vs, L', rfl, e, el, r, rfl⟩ := h;exact ⟨b, dx, vs, rfl, e, k b (by simp), el, OwL.fz fs r fun a ha => k a (by simp [ha]), trivial⟩
 | .obj false C ks xs, _, _, h, k => by
  simp only [Ow, D.fz] at h ⊢;obtain ⟨b, dx, vs, rfl, e, f, el, r, rfl⟩ := h;exact ⟨b, dx, vs, rfl, e, fs b f, el, OwL.fz fs r (fun a ha => by cases ha), trivial⟩
 | .dct true ks xs, _, _, h, k => by
  simp only [Ow, D.fz] at h ⊢;obtain ⟨b, vs, L', rfl, e, el, r, rfl⟩ := h;exact ⟨b, vs, rfl, e, k b (by simp), el, OwL.fz fs r fun a ha => k a (by simp [ha]), trivial⟩
 | .dct false ks xs, _, _, h, k => by
  simp only [Ow, D.fz] at h ⊢;obtain ⟨b, vs, rfl, e, f, el, r, rfl⟩ := h;exact ⟨b, vs, rfl, e, fs b f, el, OwL.fz fs r (fun a ha => by cases ha), trivial⟩
theorem OwL.fz (fs : ∀ a, F a -> F' a) : ∀ {xs : List D} {vs : List V} {L : List Addr}, OwL K F H xs vs L -> (∀ a ∈ L, F' a) -> OwL K F' H (D.fzL xs) vs []
 | [], _, _, h, _ => by simp only [OwL, D.fzL] at h ⊢; exact ⟨h.1, trivial⟩
 | y :: xs, _, _, h, k => by
  simp only [OwL, D.fzL] at h ⊢;obtain ⟨v, ws, L1, L2, rfl, h1, h2, rfl⟩ := h;exact ⟨v, ws, [], [], rfl, Ow.fz fs h1 fun a ha => k a (by simp [ha]), OwL.fz fs h2 fun a ha => k a (by simp [ha]), rfl⟩
end
noncomputable abbrev Ro := List (D × V)
noncomputable def OwP (K : PySem.W.Frag) (F : Addr -> Prop) (H : Hp) : Ro -> List Addr -> Prop
 | [], L => L = []
 | (d, v) :: R, L => ∃ L1 L2, Ow K F H d v L1 /\ OwP K F H R L2 /\ L = L1 ++ L2
theorem OwP.dom : ∀ {R : Ro} {L : List Addr}, OwP K F H R L -> ∀ a ∈ L, ∃ o, H a = some o
 | [], _, h, a, ha => by cases h; cases ha
 | (d, v) :: R, _, ⟨L1, L2, h1, h2, e⟩, a, ha => by
  subst e;rcases List.mem_append.mp ha with ha | ha
  ·exact h1.dom a ha
  ·exact OwP.dom h2 a ha
theorem OwP.mono (x : Ext F H F' H') : ∀ {R : Ro} {L : List Addr}, OwP K F H R L -> (∀ a ∈ L, H' a = H a) -> OwP K F' H' R L
 | [], _, h, _ => h
 | (d, v) :: R, _, ⟨L1, L2, h1, h2, e⟩, k => ⟨L1, L2, h1.mono x fun a ha => k a (by simp [e, ha]), OwP.mono x h2 fun a ha => k a (by simp [e, ha]), e⟩
theorem OwP.append : ∀ {R S : Ro} {L M : List Addr}, OwP K F H R L -> OwP K F H S M -> OwP K F H (R ++ S) (L ++ M)
 | [], _, _, _, h, k => by cases h; exact k
 | (d, v) :: R, _, _, _, ⟨L1, L2, h1, h2, e⟩, k => ⟨L1, L2 ++ _, h1, OwP.append h2 k, by rw [e, List.append_assoc]⟩
theorem OwP.split : ∀ {R S : Ro} {N : List Addr}, OwP K F H (R ++ S) N -> ∃ L M, N = L ++ M /\ OwP K F H R L /\ OwP K F H S M
 | [], _, N, h => ⟨[], N, rfl, rfl, h⟩
 | (d, v) :: R, _, _, ⟨L1, L2, h1, h2, e⟩ => by
  obtain ⟨L, M, e2, a, b⟩ := OwP.split h2;exact ⟨L1 ++ L, M, by rw [e, e2, List.append_assoc], ⟨L1, L, h1, a, rfl⟩, b⟩
theorem OwP.perm {R S : Ro} (p : R.Perm S) : ∀ {L : List Addr}, OwP K F H R L -> ∃ M, L.Perm M /\ OwP K F H S M := by
 induction p with
 | nil => intro L h; exact ⟨L, .refl _, h⟩
 | cons x _ ih =>
  rintro L ⟨L1, L2, h1, h2, e⟩;obtain ⟨M, pm, h3⟩ := ih h2;subst e;exact ⟨L1 ++ M, pm.append_left L1, L1, M, h1, h3, rfl⟩
 | swap x y l =>
  rintro L ⟨L1, L2, h1, ⟨L3, L4, h3, h4, e2⟩, e⟩;subst e; subst e2;refine ⟨L3 ++ (L1 ++ L4), ?_, L3, L1 ++ L4, h3, ⟨L1, L4, h1, h4, rfl⟩, rfl⟩;rw [<- List.append_assoc, <- List.append_assoc];exact List.perm_append_comm.append_right L4
 | trans _ _ ih1 ih2 =>
  intro L h;obtain ⟨M, p1, h1⟩ := ih1 h;obtain ⟨N, p2, h2⟩ := ih2 h1;exact ⟨N, p1.trans p2, h2⟩
theorem OwL.toP : ∀ {xs : List D} {vs : List V} {L : List Addr}, OwL K F H xs vs L -> xs.length = vs.length /\ OwP K F H (xs.zip vs) L
 | [], _, _, h => by simp only [OwL] at h; obtain ⟨rfl, rfl⟩ := h; exact ⟨rfl, rfl⟩
 | x :: xs, _, _, h => by
  simp only [OwL] at h;obtain ⟨v, ws, L1, L2, rfl, h1, h2, rfl⟩ := h;have r := h2.toP;exact ⟨by simp [r.1], L1, L2, h1, r.2, rfl⟩
theorem OwL.ofP : ∀ {xs : List D} {vs : List V} {L : List Addr}, xs.length = vs.length -> OwP K F H (xs.zip vs) L -> OwL K F H xs vs L
 | [], [], _, _, h => by simp only [OwL]; exact ⟨trivial, h⟩
 | x :: xs, v :: vs, _, e, h => by
  obtain ⟨L1, L2, h1, h2, e2⟩ := h;simp only [OwL];exact ⟨v, vs, L1, L2, rfl, h1, OwL.ofP (by simpa using e) h2, e2⟩
structure G (K : PySem.W.Frag) (F : Addr -> Prop) (H : Hp) (R : Ro) : Prop where
 own : ∃ L, OwP K F H R L /\ L.Nodup /\ ∀ a ∈ L, ¬ F a
 dom : ∀ a, F a -> ∃ o, H a = some o
variable {R S : Ro} {d : D} {v : V}
theorem G.perm (g : G K F H R) (p : R.Perm S) : G K F H S := by
 obtain ⟨L, h, n, f⟩ := g.own;obtain ⟨M, pm, h'⟩ := h.perm p;exact ⟨⟨M, h', pm.nodup_iff.mp n, fun a ha => f a (pm.mem_iff.mpr ha)⟩, g.dom⟩
theorem G.pop (g : G K F H ((d, v) :: R)) : G K F H R := by
 obtain ⟨L, ⟨L1, L2, h1, h2, rfl⟩, n, f⟩ := g.own;exact ⟨⟨L2, h2, (List.nodup_append.mp n).2.1, fun a ha => f a (by simp [ha])⟩, g.dom⟩
theorem G.popN (g : G K F H (S ++ R)) : G K F H R := by
 induction S with
 | nil => exact g
 | cons x S ih => exact ih (G.pop (d := x.1) (v := x.2) g)
noncomputable def Bor (K : PySem.W.Frag) (F : Addr -> Prop) (H : Hp) (d : D) (v : V) : Prop := ∃ L, Ow K F H d v L
theorem G.bor (g : G K F H R) (h : (d, v) ∈ R) : Bor K F H d v := by
 obtain ⟨A, B, rfl⟩ := List.append_of_mem h;obtain ⟨L, ⟨L1, L2, h1, h2, rfl⟩, n, f⟩ := (g.popN).own;exact ⟨L1, h1⟩
theorem G.push (g : G K F H R) (h : Ow K F H d v []) : G K F H ((d, v) :: R) := by
 obtain ⟨L, h1, n, f⟩ := g.own;exact ⟨⟨L, ⟨[], L, h, h1, rfl⟩, n, f⟩, g.dom⟩
theorem G.alloc {p : Addr} {o : HO} (g : G K F H R) (hp : H p = none) (hn : autoParam (NT o) xW._auto_1) : G K F (bq H p o) ((.cell, .ref p) :: R) /\ Ext F H F (bq H p o) := by
 obtain ⟨L, h1, n, f⟩ := g.own;have nF : ∀ a, F a -> a ≠ p := fun a fa e => by obtain ⟨o, h⟩ := g.dom a fa; rw [e, hp] at h; cases h
 have nL : ∀ a ∈ L, a ≠ p := fun a ha e => by obtain ⟨o, h⟩ := h1.dom a ha; rw [e, hp] at h; cases h
 have x : Ext F H F (bq H p o) := fun a fa => ⟨fa, bL (nF a fa)⟩
 refine ⟨⟨⟨p :: L, ⟨[p], L, ?_, h1.mono x fun a ha => bL (nL a ha), rfl⟩, List.nodup_cons.mpr ⟨fun h => nL p h rfl, n⟩, fun a ha fa => ?_⟩, fun a fa => ?_⟩, x⟩
 ·simp only [Ow]; exact ⟨p, ⟨o, hn⟩, rfl, cW, rfl⟩
 ·rcases List.mem_cons.mp ha with rfl | ha
  ·exact nF _ fa rfl
  ·exact f a ha fa
 ·rw [bL (nF a fa)]; exact g.dom a fa
theorem G.write {a : Addr} {o : HO} (g : G K F H ((.cell, .ref a) :: R)) (hn : autoParam (NT o) xW._auto_1) : G K F (bq H a o) ((.cell, .ref a) :: R) /\ Ext F H F (bq H a o) := by
 obtain ⟨L, ⟨L1, L2, h1, h2, rfl⟩, n, f⟩ := g.own;simp only [Ow] at h1;obtain ⟨b, ob, e, hb, rfl⟩ := h1;cases e;have nF : ∀ c, F c -> c ≠ a := fun c fc e => f a (by simp) (e ▸ fc)
 have nL : ∀ c ∈ L2, c ≠ a := fun c hc e => (List.nodup_cons.mp n).1 (e ▸ hc)
 have x : Ext F H F (bq H a o) := fun c fc => ⟨fc, bL (nF c fc)⟩
 refine ⟨⟨⟨[a] ++ L2, ⟨[a], L2, ?_, h2.mono x fun c hc => bL (nL c hc), rfl⟩, n, f⟩, fun c fc => ?_⟩, x⟩
 ·simp only [Ow]; exact ⟨a, ⟨o, hn⟩, rfl, cW, rfl⟩
 ·rw [bL (nF c fc)]; exact g.dom c fc
theorem G.openL {xs : List D} (g : G K F H ((.lst true xs, v) :: R)) : ∃ a vs, v = .ref a /\ H a = some (.lst vs) /\ xs.length = vs.length /\ G K F H ((.cell, .ref a) :: (xs.zip vs ++ R)) := by
 obtain ⟨L, ⟨L1, L2, h1, h2, rfl⟩, n, f⟩ := g.own;simp only [Ow] at h1;obtain ⟨a, vs, L', rfl, e, r, rfl⟩ := h1;refine ⟨a, vs, rfl, e, r.toP.1, ⟨a :: L' ++ L2, ⟨[a], L' ++ L2, ?_, r.toP.2.append h2, rfl⟩, n, f⟩, g.dom⟩;simp only [Ow]; exact ⟨a, ⟨.lst vs, trivial⟩, rfl, e, rfl⟩
theorem G.formL {xs : List D} {vs : List V} {a : Addr} (g : G K F H ((.cell, .ref a) :: (xs.zip vs ++ R))) (hl : xs.length = vs.length) (e : H a = some (.lst vs)) : G K F H ((.lst true xs, .ref a) :: R) := by
 obtain ⟨L, ⟨L1, L2, h1, h2, rfl⟩, n, f⟩ := g.own;simp only [Ow] at h1;obtain ⟨b, ob, e', hb, rfl⟩ := h1;cases e';obtain ⟨M, N, rfl, hm, hn⟩ := h2.split;refine ⟨⟨(a :: M) ++ N, ⟨a :: M, N, ?_, hn, rfl⟩, by simpa using n, fun c hc => f c (by simpa using hc)⟩, g.dom⟩;simp only [Ow];exact ⟨a, vs, M, rfl, e, OwL.ofP hl hm, rfl⟩
theorem G.openN {xs : List D} (g : G K F H ((.lst true xs, v) :: R)) : ∃ a vs, v = .ref a /\ H a = some (.lst vs) /\ xs.length = vs.length /\ G K F H ((.node a vs, .ref a) :: (xs.zip vs ++ R)) := by
 obtain ⟨L, ⟨L1, L2, h1, h2, rfl⟩, n, f⟩ := g.own;simp only [Ow] at h1;obtain ⟨a, vs, L', rfl, e, r, rfl⟩ := h1;refine ⟨a, vs, rfl, e, r.toP.1, ⟨a :: L' ++ L2, ⟨[a], L' ++ L2, ?_, r.toP.2.append h2, rfl⟩, n, f⟩, g.dom⟩;simp only [Ow]; exact ⟨trivial, e, trivial⟩
theorem G.openT {xs : List D} (g : G K F H ((.tup xs, v) :: R)) : ∃ a vs, v = .ref a /\ FT K F H a vs [] /\ xs.length = vs.length /\ G K F H (xs.zip vs ++ R) := by
 obtain ⟨L, ⟨L1, L2, h1, h2, rfl⟩, n, f⟩ := g.own;simp only [Ow] at h1;obtain ⟨a, vs, rfl, e, r⟩ := h1;exact ⟨a, vs, rfl, e.nil, r.toP.1, ⟨L1 ++ L2, r.toP.2.append h2, n, f⟩, g.dom⟩
theorem G.formT {xs : List D} {vs : List V} {a : Addr} (g : G K F H (xs.zip vs ++ R)) (hl : xs.length = vs.length) (e : F a /\ H a = some (.tup vs)) : G K F H ((.tup xs, .ref a) :: R) := by
 obtain ⟨L, h, n, f⟩ := g.own;obtain ⟨M, N, rfl, hm, hn⟩ := h.split;refine ⟨⟨M ++ N, ⟨M, N, ?_, hn, rfl⟩, n, f⟩, g.dom⟩;simp only [Ow];exact ⟨a, vs, rfl, .inl e, OwL.ofP hl hm⟩
theorem G.freeze (g : G K F H ((d, v) :: R)) : ∃ F', Ext F H F' H /\ G K F' H ((d.fz, v) :: R) /\ Ow K F' H d.fz v [] := by
 obtain ⟨L, ⟨L1, L2, h1, h2, rfl⟩, n, f⟩ := g.own;have x : Ext F H (fun a => F a \/ a ∈ L1) H := fun a h => ⟨.inl h, rfl⟩
 have z : Ow K (fun a => F a \/ a ∈ L1) H d.fz v [] := h1.fz (fun a h => .inl h) fun a h => .inr h
 refine ⟨fun a => F a \/ a ∈ L1, x, ⟨⟨L2, ⟨[], L2, z, h2.mono x fun _ _ => rfl, rfl⟩, (List.nodup_append.mp n).2.1, fun a ha fa => ?_⟩, fun a fa => ?_⟩, z⟩
 ·rcases fa with fa | fa
  ·exact f a (by simp [ha]) fa
  ·exact (List.nodup_append.mp n).2.2 a fa a ha rfl
 ·rcases fa with fa | fa
  ·exact g.dom a fa
  ·exact h1.dom a fa
theorem G.layT {xs : List D} {vs : List V} {p : Addr} (g : G K F H (xs.zip vs ++ R)) (hl : xs.length = vs.length) (hp : H p = none) :
  ∃ F', Ext F H F' (bq H p (.tup vs)) /\ G K F' (bq H p (.tup vs)) ((.tup xs, .ref p) :: R) := by
 obtain ⟨L, h1, n, f⟩ := g.own;have nF : ∀ a, F a -> a ≠ p := fun a fa e => by obtain ⟨o, h⟩ := g.dom a fa; rw [e, hp] at h; cases h
 have nL : ∀ a ∈ L, a ≠ p := fun a ha e => by obtain ⟨o, h⟩ := h1.dom a ha; rw [e, hp] at h; cases h
 have x : Ext F H (fun a => F a \/ a = p) (bq H p (.tup vs)) := fun a fa => ⟨.inl fa, bL (nF a fa)⟩
 refine ⟨_, x, G.formT (a := p) ⟨⟨L, h1.mono x fun a ha => bL (nL a ha), n, fun a ha fa => ?_⟩, fun a fa => ?_⟩ hl ⟨.inr rfl, cW⟩⟩
 ·rcases fa with fa | fa
  ·exact f a ha fa
  ·exact nL a ha fa
 ·rcases fa with fa | fa
  ·rw [bL (nF a fa)]; exact g.dom a fa
  ·subst fa; exact ⟨_, cW⟩
theorem G.ext (g : G K F H R) (x : Ext F H F' H') (k : ∀ a o, H a = some o -> H' a = some o) (fr : ∀ a, F' a -> F a \/ H a = none) (dm : ∀ a, F' a -> ∃ o, H' a = some o) : G K F' H' R := by
 obtain ⟨L, h, n, f⟩ := g.own;refine ⟨⟨L, h.mono x fun a ha => ?_, n, fun a ha fa => ?_⟩, dm⟩
 ·obtain ⟨o, e⟩ := h.dom a ha
  rw [e, k a o e]
 ·obtain ⟨o, e⟩ := h.dom a ha
  rcases fr a fa with z | z
  ·exact f a ha z
  ·rw [e] at z; cases z
end
section
variable {K : PySem.W.Frag} {F F' : Addr -> Prop} {H H' : Hp}
noncomputable abbrev aZ := List (Option D)
noncomputable def sl : aZ -> St -> Ro
 | some d :: σD, some v :: σ => (d, v) :: sl σD σ
 | some _ :: σD, none :: σ => sl σD σ
 | none :: σD, _ :: σ => sl σD σ
 | _, _ => []
noncomputable def Mt : aZ -> St -> Prop
 | [], [] => True
 | none :: σD, _ :: σ => Mt σD σ
 | some _ :: σD, some _ :: σ => Mt σD σ
 | _, _ => False
theorem Mt.length : ∀ {σD : aZ} {σ : St}, Mt σD σ -> σD.length = σ.length
 | [], [], _ => rfl
 | none :: σD, _ :: σ, h => by simp [Mt.length (σD := σD) (σ := σ) h]
 | some _ :: σD, some _ :: σ, h => by simp [Mt.length (σD := σD) (σ := σ) h]
theorem Mt.get : ∀ {σD : aZ} {σ : St} {i : Nat} {d : D}, Mt σD σ -> σD[i]? = some (some d) -> ∃ v, σ[i]? = some (some v) := by
 intro σD
 induction σD with
 | nil => intro σ i d h e; simp at e
 | cons x σD ih =>
  intro σ i d h e;cases σ with
  | nil => cases x <;> exact h.elim
  | cons o σ =>
   cases i with
   | zero =>
    simp at e; subst e;cases o with
    | none => exact h.elim
    | some z => exact ⟨z, rfl⟩
   | succ i =>
    have e' : σD[i]? = some (some d) := by simpa using e
    cases x with
    | none => simpa using ih (σ := σ) h e'
    | some y => cases o with
     | none => exact h.elim
     | some z => simpa using ih (σ := σ) h e'
theorem Mt.clear : ∀ {σD : aZ} {σ : St} (i : Nat), Mt σD σ -> Mt (σD.set i none) σ := by
 intro σD
 induction σD with
 | nil =>
  intro σ i h;exact h
 | cons x σD ih =>
  intro σ i h;cases σ with
  | nil => cases x <;> exact h.elim
  | cons o σ =>
   have h' : Mt σD σ := by
    cases x with
    | none => exact h
    | some y => cases o with
     | none => exact h.elim
     | some z => exact h
   cases i with
   | zero => exact h'
   | succ i =>
    have := ih i h'
    cases x with
    | none => exact this
    | some y => cases o with
     | none => exact h.elim
     | some z => exact this
theorem Mt.put : ∀ {σD : aZ} {σ : St} {i : Nat} {v : V} (d : D), Mt σD σ -> σ[i]? = some (some v) -> Mt (σD.set i (some d)) σ := by
 intro σD
 induction σD with
 | nil =>
  intro σ i v d h e;cases σ with
  | nil => simp at e
  | cons o σ => exact h.elim
 | cons x σD ih =>
  intro σ i v d h e;cases σ with
  | nil => cases x <;> exact h.elim
  | cons o σ =>
   cases i with
   | zero =>
    simp at e; subst e;cases x <;> exact h
   | succ i =>
    have e' : σ[i]? = some (some v) := by simpa using e
    cases x with
    | none => exact ih (σ := σ) d h e'
    | some y => cases o with
     | none => exact h.elim
     | some z => exact ih (σ := σ) d h e'
theorem Mt.store : ∀ {σD : aZ} {σ : St} (i : Nat) (v : V) (d : D), Mt σD σ -> Mt (σD.set i (some d)) (σ.set i (some v)) := by
 intro σD
 induction σD with
 | nil =>
  intro σ i v d h;cases σ with
  | nil => exact h
  | cons o σ => exact h.elim
 | cons x σD ih =>
  intro σ i v d h;cases σ with
  | nil => cases x <;> exact h.elim
  | cons o σ =>
   have h' : Mt σD σ := by
    cases x with
    | none => exact h
    | some y => cases o with
     | none => exact h.elim
     | some z => exact h
   cases i with
   | zero => exact h'
   | succ i =>
    have := ih i v d h'
    cases x with
    | none => exact this
    | some y => cases o with
     | none => exact h.elim
     | some z => exact this
theorem lB : ∀ {σD : aZ} {σ : St} {i : Nat} {d : D} {v : V}, σD[i]? = some (some d) -> σ[i]? = some (some v) -> (sl σD σ).Perm ((d, v) :: sl (σD.set i none) σ) := by
 intro σD
 induction σD with
 | nil => intro σ i d v e; simp at e
 | cons x σD ih =>
  intro σ i d v e e';cases σ with
  | nil => simp at e'
  | cons o σ =>
   cases i with
   | zero =>
    simp at e e'; subst e; subst e';exact .refl _
   | succ i =>
    have q := ih (σ := σ) (i := i) (d := d) (v := v) (by simpa using e) (by simpa using e');cases x with
    | none => exact q
    | some y => cases o with
     | none => exact q
     | some z => exact (q.cons _).trans (.swap _ _ _)
theorem lC : ∀ {σD : aZ} {σ : St} {i : Nat}, σD[i]? = some none -> sl (σD.set i none) σ = sl σD σ
 | [], _, _, e => by simp at e
 | none :: σD, [], 0, _ => rfl
 | none :: σD, o :: σ, 0, _ => rfl
 | some _ :: σD, _, 0, e => by simp at e
 | x :: σD, [], i + 1, e => by cases x <;> rfl
 | none :: σD, _ :: σ, i + 1, e => lC (σD := σD) (σ := σ) (i := i) (by simpa using e)
 | some x :: σD, none :: σ, i + 1, e => lC (σD := σD) (σ := σ) (i := i) (by simpa using e)
 | some x :: σD, some y :: σ, i + 1, e => by
  show (x, y) :: sl (σD.set i none) σ = (x, y) :: sl σD σ;rw [lC (σD := σD) (σ := σ) (i := i) (by simpa using e)]
theorem uM : ∀ {σD : aZ} {σ : St} {i : Nat} {v : V} (d : D), i < σD.length -> σ[i]? = some (some v) -> (sl (σD.set i (some d)) σ).Perm ((d, v) :: sl (σD.set i none) σ) := fun {σD σ i v} d h e => by
 have h1 := lB (σD := σD.set i (some d)) (σ := σ) (i := i) (d := d) (v := v) (by simp [h]) e;rw [List.set_set] at h1;exact h1
theorem ke : ∀ {σD : aZ} {σ : St} {i : Nat} {v : V}, sl (σD.set i none) (σ.set i (some v)) = sl (σD.set i none) σ
 | [], _, _, _ => by simp [sl]
 | x :: σD, [], i, _ => by simp
 | x :: σD, o :: σ, 0, _ => by cases o <;> rfl
 | none :: σD, o :: σ, i + 1, _ => ke (σD := σD) (σ := σ) (i := i)
 | some x :: σD, none :: σ, i + 1, _ => ke (σD := σD) (σ := σ) (i := i)
 | some x :: σD, some y :: σ, i + 1, _ => by
  show (x, y) :: sl (σD.set i none) (σ.set i _) = (x, y) :: sl (σD.set i none) σ;rw [ke (σD := σD) (σ := σ) (i := i)]
theorem G.clear {σD : aZ} {σ : St} {R : Ro} (i : Nat) (m : Mt σD σ) (g : G K F H (sl σD σ ++ R)) : G K F H (sl (σD.set i none) σ ++ R) := by
 rcases h : σD[i]? with _ | _ | d
 ·rw [List.set_eq_of_length_le (List.getElem?_eq_none_iff.mp h)]; exact g
 ·rw [lC h]; exact g
 ·obtain ⟨v, hv⟩ := m.get h
  exact G.pop (d := d) (v := v) (g.perm ((lB h hv).append_right R))
structure Rel (K : PySem.W.Frag) (F : Addr -> Prop) (H : Hp) (σD : aZ) (σ : St) (R : Ro) : Prop where
 mt : Mt σD σ
 g : G K F H (sl σD σ ++ R)
variable {σD : aZ} {σ : St} {R S : Ro} {d : D} {v : V} {i : Nat}
theorem Rel.perm (r : Rel K F H σD σ R) (p : R.Perm S) : Rel K F H σD σ S := ⟨r.mt, r.g.perm (p.append_left _)⟩
theorem Rel.front (r : Rel K F H σD σ R) : G K F H (R ++ sl σD σ) := r.g.perm List.perm_append_comm
theorem Rel.of (m : Mt σD σ) (g : G K F H (R ++ sl σD σ)) : Rel K F H σD σ R := ⟨m, g.perm List.perm_append_comm⟩
theorem Rel.get (r : Rel K F H σD σ R) (e : σD[i]? = some (some d)) : ∃ v, σ[i]? = some (some v) /\ Bor K F H d v := by
 obtain ⟨v, hv⟩ := r.mt.get e;exact ⟨v, hv, r.g.bor (List.mem_append_left _ ((lB e hv).mem_iff.mpr (by simp)))⟩
theorem Rel.take (r : Rel K F H σD σ R) (e : σD[i]? = some (some d)) : ∃ v, σ[i]? = some (some v) /\ Rel K F H (σD.set i none) σ ((d, v) :: R) := by
 obtain ⟨v, hv⟩ := r.mt.get e;refine ⟨v, hv, r.mt.clear i, r.g.perm ?_⟩;exact ((lB e hv).append_right R).trans List.perm_middle.symm
theorem Rel.put (r : Rel K F H σD σ ((d, v) :: R)) (e : σ[i]? = some (some v)) : Rel K F H (σD.set i (some d)) σ R := by
 have hi : i < σD.length := by rw [r.mt.length]; exact (List.getElem?_eq_some_iff.mp e).1
 refine ⟨r.mt.put d e, (r.g.clear i r.mt).perm ?_⟩;exact List.perm_middle.trans ((uM d hi e).append_right R).symm
theorem Rel.store (r : Rel K F H σD σ ((d, v) :: R)) (hi : i < σ.length) : Rel K F H (σD.set i (some d)) (σ.set i (some v)) R := by
 have hi' : i < σD.length := by rw [r.mt.length]; exact hi
 refine ⟨r.mt.store i v d, (r.g.clear i r.mt).perm ?_⟩;have h := uM (σD := σD) (σ := σ.set i (some v)) (i := i) (v := v) d hi' (by simp [hi]);rw [ke] at h;exact List.perm_middle.trans (h.append_right R).symm
theorem Rel.pop (r : Rel K F H σD σ ((d, v) :: R)) : Rel K F H σD σ R := Rel.of r.mt (r.front).pop
theorem Rel.popN (r : Rel K F H σD σ (S ++ R)) : Rel K F H σD σ R := Rel.of r.mt (by have h := r.front; rw [List.append_assoc] at h; exact h.popN)
theorem Rel.push (r : Rel K F H σD σ R) (h : Ow K F H d v []) : Rel K F H σD σ ((d, v) :: R) := Rel.of r.mt (r.front.push h)
theorem Rel.bor (r : Rel K F H σD σ R) (h : (d, v) ∈ R) : Bor K F H d v := r.g.bor (List.mem_append_right _ h)
theorem Rel.freeze (r : Rel K F H σD σ ((d, v) :: R)) : ∃ F', Ext F H F' H /\ Rel K F' H σD σ ((d.fz, v) :: R) /\ Ow K F' H d.fz v [] := by
 obtain ⟨F', x, g, o⟩ := r.front.freeze;exact ⟨F', x, Rel.of r.mt g, o⟩
theorem Rel.openL {xs : List D} (r : Rel K F H σD σ ((.lst true xs, v) :: R)) : ∃ a vs, v = .ref a /\ H a = some (.lst vs) /\ xs.length = vs.length /\ Rel K F H σD σ ((.cell, .ref a) :: (xs.zip vs ++ R)) := by
 obtain ⟨a, vs, e, h, l, g⟩ := r.front.openL;exact ⟨a, vs, e, h, l, Rel.of r.mt (by simpa using g)⟩
theorem Rel.formL {xs : List D} {vs : List V} {a : Addr} (r : Rel K F H σD σ ((.cell, .ref a) :: (xs.zip vs ++ R))) (hl : xs.length = vs.length) (e : H a = some (.lst vs)) : Rel K F H σD σ ((.lst true xs, .ref a) :: R) :=
 Rel.of r.mt (G.formL (vs := vs) (by simpa using r.front) hl e)
theorem Rel.openN {xs : List D} (r : Rel K F H σD σ ((.lst true xs, v) :: R)) : ∃ a vs, v = .ref a /\ H a = some (.lst vs) /\ xs.length = vs.length /\ Rel K F H σD σ ((.node a vs, .ref a) :: (xs.zip vs ++ R)) := by
 obtain ⟨a, vs, e, h, l, g⟩ := r.front.openN;exact ⟨a, vs, e, h, l, Rel.of r.mt (by simpa using g)⟩
theorem Rel.openT {xs : List D} (r : Rel K F H σD σ ((.tup xs, v) :: R)) : ∃ a vs, v = .ref a /\ FT K F H a vs [] /\ xs.length = vs.length /\ Rel K F H σD σ (xs.zip vs ++ R) := by
 obtain ⟨a, vs, e, h, l, g⟩ := r.front.openT;exact ⟨a, vs, e, h, l, Rel.of r.mt (by simpa using g)⟩
theorem Rel.alloc {p : Addr} {o : HO} (r : Rel K F H σD σ R) (hp : H p = none) (hn : autoParam (NT o) xW._auto_1) : Rel K F (bq H p o) σD σ ((.cell, .ref p) :: R) /\ Ext F H F (bq H p o) := by
 obtain ⟨g, x⟩ := r.front.alloc (o := o) hp hn;exact ⟨Rel.of r.mt g, x⟩
theorem Rel.write {a : Addr} {o : HO} (r : Rel K F H σD σ ((.cell, .ref a) :: R)) (hn : autoParam (NT o) xW._auto_1) : Rel K F (bq H a o) σD σ ((.cell, .ref a) :: R) /\ Ext F H F (bq H a o) := by
 obtain ⟨g, x⟩ := r.front.write (o := o) hn;exact ⟨Rel.of r.mt g, x⟩
theorem Rel.layL {xs : List D} {vs : List V} {p : Addr} (r : Rel K F H σD σ (xs.zip vs ++ R)) (hl : xs.length = vs.length) (hp : H p = none) :
  Rel K F (bq H p (.lst vs)) σD σ ((.lst true xs, .ref p) :: R) /\ Ext F H F (bq H p (.lst vs)) := by
 obtain ⟨r1, x⟩ := r.alloc (o := .lst vs) hp;exact ⟨r1.formL hl cW, x⟩
theorem Rel.layT {xs : List D} {vs : List V} {p : Addr} (r : Rel K F H σD σ (xs.zip vs ++ R)) (hl : xs.length = vs.length) (hp : H p = none) :
  ∃ F', Ext F H F' (bq H p (.tup vs)) /\ Rel K F' (bq H p (.tup vs)) σD σ ((.tup xs, .ref p) :: R) := by
 obtain ⟨F', x, g⟩ := G.layT (R := R ++ sl σD σ) (by simpa using r.front) hl hp;exact ⟨F', x, Rel.of r.mt g⟩
structure Grow (F : Addr -> Prop) (H : Hp) (F' : Addr -> Prop) (H' : Hp) : Prop where
 x : Ext F H F' H'
 k : ∀ a o, H a = some o -> H' a = some o
 fr : ∀ a, F' a -> F a \/ H a = none
 dm : (∀ a, F a -> ∃ o, H a = some o) -> ∀ a, F' a -> ∃ o, H' a = some o
theorem Grow.refl : Grow F H F H := ⟨Ext.refl, fun _ _ e => e, fun _ h => .inl h, fun h => h⟩
theorem Grow.trans {F'' : Addr -> Prop} {H'' : Hp} (a : Grow F H F' H') (b : Grow F' H' F'' H'') : Grow F H F'' H'' :=
 ⟨a.x.trans b.x, fun x o e => b.k x o (a.k x o e), fun x h => by
  rcases b.fr x h with h | h
  ·exact a.fr x h
  ·refine .inr ?_
   rcases e : H x with _ | o
   ·rfl
   ·rw [a.k x o e] at h
    exact (nomatch h), fun d => b.dm (a.dm d)⟩
theorem Rel.grow (r : Rel K F H σD σ R) (g : Grow F H F' H') : Rel K F' H' σD σ R := ⟨r.mt, r.g.ext g.x g.k g.fr (g.dm r.g.dom)⟩
theorem Bor.grow (b : Bor K F H d v) (g : Grow F H F' H') : Bor K F' H' d v := by
 obtain ⟨L, h⟩ := b;exact ⟨L, h.mono g.x fun a ha => by obtain ⟨o, e⟩ := h.dom a ha; rw [e, g.k a o e]⟩
end
end DD
namespace DD
open PySem PySem.Spec PyProof.Rows L2
noncomputable abbrev St := L2.St
noncomputable def D.sc : D -> Option V
 | .non => some .non
 | .bl b => some (.bl b)
 | .int i => some (.int i)
 | .str x => some (.str x)
 | .ty n => some (.ty n)
 | .cls a => some (.ref a)
 | _ => none
section
variable {K : PySem.W.Frag} {F F' : Addr -> Prop} {H H' : Hp} {d : D} {v w : V} {L : List Addr} {R : Ro} {σD : aZ} {σ : St}
theorem Ow.of_sc (h : d.sc = some w) : Ow K F H d w [] := by
 cases d <;> simp only [D.sc] at h <;> cases h <;> simp only [Ow] <;> exact ⟨trivial, trivial⟩
theorem Ow.sc (o : Ow K F H d v L) (h : d.sc = some w) : v = w /\ L = [] := by
 cases d <;> simp only [D.sc] at h <;> cases h <;> simp only [Ow] at o <;> exact o
theorem Bor.sc (b : Bor K F H d v) (h : d.sc = some w) : v = w := by obtain ⟨L, o⟩ := b; exact (o.sc h).1
theorem Rel.scal (r : Rel K F H σD σ R) (h : d.sc = some w) : Rel K F H σD σ ((d, w) :: R) := r.push (Ow.of_sc h)
theorem Bor.int {i : Int} (b : Bor K F H (.int i) v) : v = .int i := b.sc rfl
theorem Bor.bl {i : Bool} (b : Bor K F H (.bl i) v) : v = .bl i := b.sc rfl
theorem Bor.str {i : Str} (b : Bor K F H (.str i) v) : v = .str i := b.sc rfl
end
section
variable {X : Cx} {e : Expr} {es : List Expr} {st : Stmt} {sts : List Stmt}
theorem bH {t t' : TE} (h : PE X e t) (i : ∀ σ H Q, t' σ H Q -> t σ H Q) : PE X e t' := fun ab s σ H Q I h' => h ab s σ H Q I (i σ H Q h')
theorem kc {t t' : TT} (h : PT X e t) (i : ∀ σ H Q, t' σ H Q -> t σ H Q) : PT X e t' := fun ab s σ H Q I h' => h ab s σ H Q I (i σ H Q h')
theorem v5 {t t' : TT} (h : PW X e t) (i : ∀ σ H Q, t' σ H Q -> t σ H Q) : PW X e t' := fun wh ab s σ H Q I h' => h wh ab s σ H Q I (i σ H Q h')
theorem jg {t t' : TA} (h : PA X es t) (i : ∀ σ H Q, t' σ H Q -> t σ H Q) : PA X es t' := fun p ab s σ H Q I h' => h p ab s σ H Q I (i σ H Q h')
theorem ir {t t' : TS} (h : PS X st t) (i : ∀ D σ H, t' D σ H -> t D σ H) : PS X st t' := fun ab s σ H D I h' => h ab s σ H D I (i D σ H h')
theorem o7 {t t' : TS} (h : PSs X sts t) (i : ∀ D σ H, t' D σ H -> t D σ H) : PSs X sts t' := fun ab s σ H D I h' => h ab s σ H D I (i D σ H h')
theorem o8 {f : Value -> Value -> Sem Value} {r r' : R2} (h : fh X f r) (i : ∀ x y H Q, r' x y H Q -> r x y H Q) : fh X f r' := fun ab s σ H x y v u Q I a b h' => h ab s σ H x y v u Q I a b (i x y H Q h')
end
noncomputable abbrev DE := aZ -> Option (D × aZ)
noncomputable abbrev DP := aZ -> Option D
noncomputable abbrev DA := aZ -> Option (List D × aZ)
noncomputable abbrev DT := aZ -> Option (Bool × aZ)
inductive Out where
 | nx (σ : aZ) | rt (d : D) (σ : aZ) | bk (σ : aZ) | ct (σ : aZ)
noncomputable abbrev DS := aZ -> Option Out
noncomputable def rE (K : PySem.W.Frag) (c : DE) : TE := fun σ H Q => ∃ F R σD d σD', Rel K F H σD σ R /\ c σD = some (d, σD') /\ ∀ F' H' v, Ext F H F' H' -> Rel K F' H' σD' σ ((d, v) :: R) -> Q v H'
noncomputable def rB (K : PySem.W.Frag) (c : DP) : TE := fun σ H Q => ∃ F R σD d, Rel K F H σD σ R /\ c σD = some d /\ ∀ F' H' v, Grow F H F' H' -> Bor K F' H' d v -> Q v H'
noncomputable def rA (K : PySem.W.Frag) (c : DA) : TA := fun σ H Q => ∃ F R σD xs σD', Rel K F H σD σ R /\ c σD = some (xs, σD') /\ ∀ F' H' vs, Ext F H F' H' -> xs.length = vs.length -> Rel K F' H' σD' σ (xs.zip vs ++ R) -> Q vs H'
noncomputable def rT (K : PySem.W.Frag) (c : DT) : TT := fun σ H Q => ∃ F R σD b σD', Rel K F H σD σ R /\ c σD = some (b, σD') /\ ∀ F' H', Ext F H F' H' -> Rel K F' H' σD' σ R -> Q b H'
noncomputable def Kp (W : List Nat) (σ σ' : St) : Prop := ∀ k, k ∉ W -> σ'[k]? = σ[k]?
noncomputable def Th (K : PySem.W.Frag) (En : lw) (R : Ro) (F : Addr -> Prop) (H : Hp) (σ : St) : Out -> Prop
 | .nx σD => Rel K F H σD σ R -> En.nx σ H
 | .bk σD => Rel K F H σD σ R -> En.bk σ H
 | .ct σD => Rel K F H σD σ R -> En.ct σ H
 | .rt d σD => ∀ v, Rel K F H σD σ ((d, v) :: R) -> En.rt v H
noncomputable def rS (K : PySem.W.Frag) (c : DS) (W : List Nat) : TS := fun En σ H => ∃ F R σD o, Rel K F H σD σ R /\ c σD = some o /\ ∀ F' H' σ', Ext F H F' H' -> Kp W σ σ' -> Th K En R F' H' σ' o
noncomputable def QE (X : Cx) (e : Expr) (c : DE) : Prop := PE X e (rE X.K c)
noncomputable def QB (X : Cx) (e : Expr) (c : DP) : Prop := PE X e (rB X.K c)
noncomputable def QA (X : Cx) (es : List Expr) (c : DA) : Prop := PA X es (rA X.K c)
noncomputable def QT (X : Cx) (e : Expr) (c : DT) : Prop := PT X e (rT X.K c)
noncomputable def QW (X : Cx) (e : Expr) (c : DT) : Prop := PW X e (rT X.K c)
noncomputable def QS (X : Cx) (st : Stmt) (c : DS) (W : List Nat) : Prop := PS X st (rS X.K c W)
noncomputable def mr (X : Cx) (sts : List Stmt) (c : DS) (W : List Nat) : Prop := PSs X sts (rS X.K c W)
theorem Kp.refl {W : List Nat} {σ : St} : Kp W σ σ := fun _ _ => rfl
theorem Kp.trans {W : List Nat} {σ σ1 σ2 : St} (a : Kp W σ σ1) (b : Kp W σ1 σ2) : Kp W σ σ2 := fun k h => (b k h).trans (a k h)
theorem Kp.mono {W W' : List Nat} {σ σ' : St} (a : Kp W σ σ') (h : ∀ k ∈ W, k ∈ W') : Kp W' σ σ' := fun k hk => a k fun z => hk (h k z)
theorem Kp.set {σ : St} {i : Nat} {o : Option V} : Kp [i] σ (σ.set i o) := fun k hk => by
 rw [List.getElem?_set_ne]; intro e; exact hk (by simp [e])
noncomputable def dS (p : DP) : DE := fun σ => (p σ).bind fun d => match d.sc with | some _ => some (d, σ) | none => none
noncomputable def da (σ : aZ) (i : Nat) : Option D := match σ[i]? with | some (some d) => some d | _ => none
theorem cG {σ : aZ} {i : Nat} {d : D} (h : da σ i = some d) : σ[i]? = some (some d) := by
 unfold da at h;split at h
 ·cases h; assumption
 ·cases h
noncomputable def pV (i : Nat) : DP := fun σ => da σ i
noncomputable def pC (d : D) : DP := fun _ => some d
noncomputable def bA (i : Nat) : DE := fun σ => (da σ i).map fun d => (d.fz, σ.set i (some d.fz))
noncomputable def gi (i : Nat) : DE := fun σ => (da σ i).map fun d => (d, σ.set i none)
section
variable {X : Cx} {e a b : Expr} {es : List Expr} {p q : DP} {c c' : DE} {pos : Pos}
theorem ak (h : QB X e p) : QE X e (dS p) := bH h fun σ H Q hq0 => by
 obtain ⟨F, R, σD, d, σD', r, ec, k⟩ := hq0;unfold dS at ec;rcases hp : p σD with _ | x
 ·rw [hp] at ec; cases ec
 ·rw [hp] at ec
  simp only [bind_some] at ec;rcases hs : x.sc with _ | w
  ·rw [hs] at ec; cases ec
  ·rw [hs] at ec; cases ec
   refine ⟨F, R, σD, d, r, hp, fun F' H' v g b => k F' H' v g.x ?_⟩;rw [b.sc hs]; exact (r.grow g).scal hs
theorem ae (i : Nat) {x : Str} {pos : Pos} (hN : autoParam (X.N[i]? = some x) bj._auto_1) (hv : autoParam (kH X.env.scope x) mv._auto_1) (hd : autoParam ((x == ("__debug__" : Str)) = false) cz._auto_1)
  (hcd : autoParam ((x == ("__classdict__" : Str)) = false) cz._auto_1) : QB X (.Name x pos) (pV i) := bH (fY hN hv hd hcd) fun σ H Q hq0 => by
 obtain ⟨F, R, σD, d, r, ec, k⟩ := hq0;obtain ⟨v, hv, b⟩ := r.get (cG ec);exact ⟨v, hv, k F H v Grow.refl b⟩
theorem aj {i : Int} {j pos} : QB X (.Constant (.int i) j pos) (pC (.int i)) := bH zX fun σ H Q hq0 => by
 obtain ⟨F, R, σD, d, r, ec, k⟩ := hq0;cases ec; exact k F H _ Grow.refl ⟨[], Ow.of_sc rfl⟩
theorem jl {i : Bool} {j pos} : QB X (.Constant (.bool i) j pos) (pC (.bl i)) := bH Bs fun σ H Q hq0 => by
 obtain ⟨F, R, σD, d, r, ec, k⟩ := hq0;cases ec; exact k F H _ Grow.refl ⟨[], Ow.of_sc rfl⟩
theorem qt {x : Str} {j pos} : QB X (.Constant (.str x) j pos) (pC (.str x)) := bH zV fun σ H Q hq0 => by
 obtain ⟨F, R, σD, d, r, ec, k⟩ := hq0;cases ec; exact k F H _ Grow.refl ⟨[], Ow.of_sc rfl⟩
theorem cH {α β γ : Type} {o : Option α} {f : α -> β × γ} {d : β} {s : γ} (h : o.map f = some (d, s)) : ∃ x, o = some x /\ f x = (d, s) := by
 cases o with
 | none => cases h
 | some x => exact ⟨x, rfl, Option.some.inj h⟩
theorem aL (i : Nat) {x : Str} {pos : Pos} (hN : autoParam (X.N[i]? = some x) bj._auto_1) (hv : autoParam (kH X.env.scope x) mv._auto_1) (hd : autoParam ((x == ("__debug__" : Str)) = false) cz._auto_1)
  (hcd : autoParam ((x == ("__classdict__" : Str)) = false) cz._auto_1) : QE X (.Name x pos) (bA i) := bH (fY hN hv hd hcd) fun σ H Q hq0 => by
 obtain ⟨F, R, σD, d, σD', r, ec, k⟩ := hq0;obtain ⟨d0, e0, e1⟩ := cH ec;cases e1;obtain ⟨v, hv, r1⟩ := r.take (cG e0);obtain ⟨F', x, r2, o⟩ := r1.freeze;have r3 := (r2.push o).put hv;rw [List.set_set] at r3;exact ⟨v, hv, k F' H v x r3⟩
theorem dP (i : Nat) {x : Str} {pos : Pos} (hN : autoParam (X.N[i]? = some x) bj._auto_1) (hv : autoParam (kH X.env.scope x) mv._auto_1) (hd : autoParam ((x == ("__debug__" : Str)) = false) cz._auto_1)
  (hcd : autoParam ((x == ("__classdict__" : Str)) = false) cz._auto_1) : QE X (.Name x pos) (gi i) := bH (fY hN hv hd hcd) fun σ H Q hq0 => by
 obtain ⟨F, R, σD, d, σD', r, ec, k⟩ := hq0;obtain ⟨d0, e0, e1⟩ := cH ec;cases e1;obtain ⟨v, hv, r1⟩ := r.take (cG e0);exact ⟨v, hv, k F H v Ext.refl r1⟩
structure dB (X : Cx) (f : Value -> Value -> Sem Value) (g : D -> D -> Option D) : Prop where
 run : fh X f (fun x y H Q => ∃ F dx dy d w, Bor X.K F H dx x /\ Bor X.K F H dy y /\ g dx dy = some d /\ d.sc = some w /\ Q w H)
 sc : ∀ x y d, g x y = some d -> ∃ w, d.sc = some w
noncomputable def df (g : D -> D -> Option D) (c c' : DE) : DE := fun σ => (c σ).bind fun p => (c' p.2).bind fun q => (g p.1 q.1).map fun d => (d, q.2)
noncomputable def aU (g : D -> D -> Option D) (p q : DP) : DP := fun σ => (p σ).bind fun x => (q σ).bind fun y => g x y
theorem wZ {g : D -> D -> Option D} {σ σ' : aZ} {d : D} (h : df g c c' σ = some (d, σ')) : ∃ x y σ1, c σ = some (x, σ1) /\ c' σ1 = some (y, σ') /\ g x y = some d := by
 unfold df at h;rcases h1 : c σ with _ | ⟨x, σ1⟩
 ·rw [h1] at h; cases h
 ·rw [h1] at h; simp only [bind_some] at h
  rcases h2 : c' σ1 with _ | ⟨y, σ2⟩
  ·rw [h2] at h; cases h
  ·rw [h2] at h; simp only [bind_some] at h
   obtain ⟨z, e, e2⟩ := cH h;cases e2;exact ⟨x, y, σ1, rfl, h2, e⟩
theorem qx {g : D -> D -> Option D} {σ : aZ} {d : D} (h : aU g p q σ = some d) : ∃ x y, p σ = some x /\ q σ = some y /\ g x y = some d := by
 unfold aU at h;rcases h1 : p σ with _ | x
 ·rw [h1] at h; cases h
 ·rw [h1] at h; simp only [bind_some] at h
  rcases h2 : q σ with _ | y
  ·rw [h2] at h; cases h
  ·rw [h2] at h; simp only [bind_some] at h
   exact ⟨x, y, rfl, rfl, h⟩
theorem BU {f : Value -> Value -> Sem Value} {g : D -> D -> Option D} (o : dB X f g) {σ : St} {H : Hp} {Q : VK} (h : rE X.K (df g c c') σ H Q) :
  kA (fun x y H Q => ∃ F dx dy d w, Bor X.K F H dx x /\ Bor X.K F H dy y /\ g dx dy = some d /\ d.sc = some w /\ Q w H) (rE X.K c) (rE X.K c') σ H Q := by
 obtain ⟨F, R, σD, d, σD', r, ec, k⟩ := h;obtain ⟨x, y, σ1, e1, e2, eg⟩ := wZ ec;obtain ⟨w, hw⟩ := o.sc _ _ _ eg;refine ⟨F, R, σD, x, σ1, r, e1, fun F1 H1 v x1 r1 => ?_⟩;refine ⟨F1, _, σ1, y, σD', r1, e2, fun F2 H2 u x2 r2 => ?_⟩;refine ⟨F2, x, y, d, w, r2.bor (by simp), r2.bor (by simp), eg, hw, k F2 H2 w (x1.trans x2) ?_⟩;exact (r2.pop.pop).scal hw
theorem wg {f : Value -> Value -> Sem Value} {g : D -> D -> Option D} (o : dB X f g) {σ : St} {H : Hp} {Q : VK} (h : rB X.K (aU g p q) σ H Q) :
  kA (fun x y H Q => ∃ F dx dy d w, Bor X.K F H dx x /\ Bor X.K F H dy y /\ g dx dy = some d /\ d.sc = some w /\ Q w H) (rB X.K p) (rB X.K q) σ H Q := by
 obtain ⟨F, R, σD, d, r, ec, k⟩ := h;obtain ⟨x, y, e1, e2, eg⟩ := qx ec;obtain ⟨w, hw⟩ := o.sc _ _ _ eg;refine ⟨F, R, σD, x, r, e1, fun F1 H1 v g1 b1 => ?_⟩;refine ⟨F1, R, σD, y, r.grow g1, e2, fun F2 H2 u g2 b2 => ?_⟩;exact ⟨F2, x, y, d, w, b1.grow g2, b2, eg, hw, k F2 H2 w (g1.trans g2) ⟨[], Ow.of_sc hw⟩⟩
theorem t4 {op : Operator} {g : D -> D -> Option D} (o : dB X (binaryOp op) g) (ha : QE X a c) (hb : QE X b c') : QE X (.BinOp a op b pos) (df g c c') :=
 bH (p5 o.run ha hb) fun _ _ _ h => BU o h
theorem aY {op : Operator} {g : D -> D -> Option D} (o : dB X (binaryOp op) g) (ha : QB X a p) (hb : QB X b q) : QB X (.BinOp a op b pos) (aU g p q) :=
 bH (p5 o.run ha hb) fun _ _ _ h => wg o h
theorem uX {op : CmpOp} {g : D -> D -> Option D} (o : dB X (compareOp op) g) (ha : QB X a p) (hb : QB X b q) (hm : behindInMarks op b = false) : QB X (.Compare a [op] [b] pos) (aU g p q) :=
 bH (ot o.run ha hb hm) fun _ _ _ h => wg o h
noncomputable def gI (C : Int -> Int -> Bool) (f : Int -> Int -> Int) : D -> D -> Option D
 | .int i, .int j => if C i j = true then some (.int (f i j)) else none
 | _, _ => none
noncomputable def kC (f : Int -> Int -> Int) : D -> D -> Option D
 | .int i, .int j => some (.int (f i j))
 | _, _ => none
noncomputable def pG (f : Int -> Int -> Bool) : D -> D -> Option D
 | .int i, .int j => some (.bl (f i j))
 | _, _ => none
theorem lF {f : Value -> Value -> Sem Value} {C : Int -> Int -> Prop} {Cb : Int -> Int -> Bool} {g : Int -> Int -> Int} (h : fh X f (rI C fun i j => .int (g i j))) (hC : ∀ i j, Cb i j = true -> C i j) : dB X f (gI Cb g) := by
 refine ⟨o8 h fun x y H Q pz => ?_, fun x y d h => ?_⟩
 ·obtain ⟨F, dx, dy, d, w, b1, b2, eg, hw, q⟩ := pz
  unfold gI at eg;split at eg
  ·split at eg
   ·cases eg; cases hw
    exact ⟨_, _, b1.int, b2.int, hC _ _ (by assumption), q⟩
   ·cases eg
  ·cases eg
 ·unfold gI at h
  split at h
  ·split at h
   ·cases h; exact ⟨_, rfl⟩
   ·cases h
  ·cases h
theorem nz {f : Value -> Value -> Sem Value} {g : Int -> Int -> Int} (h : fh X f (lY fun i j => .int (g i j))) : dB X f (kC g) := by
 refine ⟨o8 h fun x y H Q pz => ?_, fun x y d h => ?_⟩
 ·obtain ⟨F, dx, dy, d, w, b1, b2, eg, hw, q⟩ := pz
  unfold kC at eg;split at eg
  ·cases eg; cases hw
   exact ⟨_, _, b1.int, b2.int, q⟩
  ·cases eg
 ·unfold kC at h
  split at h
  ·cases h; exact ⟨_, rfl⟩
  ·cases h
theorem vd {f : Value -> Value -> Sem Value} {g : Int -> Int -> Bool} (h : fh X f (lY fun i j => .bl (g i j))) : dB X f (pG g) := by
 refine ⟨o8 h fun x y H Q pz => ?_, fun x y d h => ?_⟩
 ·obtain ⟨F, dx, dy, d, w, b1, b2, eg, hw, q⟩ := pz
  unfold pG at eg;split at eg
  ·cases eg; cases hw
   exact ⟨_, _, b1.int, b2.int, q⟩
  ·cases eg
 ·unfold pG at h
  split at h
  ·cases h; exact ⟨_, rfl⟩
  ·cases h
theorem dj : dB X (binaryOp .Add) (kC fun i j => i + j) := nz Af
theorem Bx : dB X (binaryOp .Sub) (kC fun i j => i - j) := nz z7
theorem nA : dB X (binaryOp .BitAnd) (kC Builtin.bitAnd) := nz Ae
theorem qG : dB X (binaryOp .BitOr) (kC Builtin.bitOr) := nz Bu
theorem lG : dB X (binaryOp .Mod) (gI (fun _ j => decide (0 < j)) fun i j => i % j) := lF Ac fun i j h => by simpa using h
theorem xA : dB X (binaryOp .Pow) (gI (fun i j => decide (0 <= j /\ j <= 1000000 /\ i.natAbs < 2 ^ 64)) fun i j => i ^ j.toNat) := lF Aa fun i j h => by simpa [uD] using h
theorem eO : dB X (binaryOp .LShift) (gI (fun i j => decide (0 <= j /\ j <= 1000000 /\ i.natAbs < 2 ^ 64)) fun i j => i * 2 ^ j.toNat) := lF z9 fun i j h => by simpa [uD] using h
theorem uc : dB X (binaryOp .RShift) (gI (fun _ j => decide (0 <= j)) fun i j => i / 2 ^ j.toNat) := lF z8 fun i j h => by simpa using h
theorem mQ : dB X (compareOp .Lt) (pG fun i j => decide (i < j)) := vd Bv
theorem Cn : dB X (compareOp .GtE) (pG fun i j => decide (j <= i)) := vd Bw
noncomputable def aW : DA := fun σ => some ([], σ)
noncomputable def ag (c : DE) (ca : DA) : DA := fun σ => (c σ).bind fun p => (ca p.2).map fun q => (p.1 :: q.1, q.2)
theorem aB : QA X [] aW := jg fZ fun σ H Q hq0 => by
 obtain ⟨F, R, σD, xs, σD', r, ec, k⟩ := hq0;cases ec; exact k F H [] Ext.refl rfl r
theorem ad {ca : DA} (ha : QE X e c) (hr : QA X es ca) (hs : autoParam (starEach (e :: es) X.env = (false, eval e X.env) :: starEach es X.env) bj._auto_1) : QA X (e :: es) (ag c ca) := jg (eB ha hr hs) fun σ H Q hq0 => by
 obtain ⟨F, R, σD, xs, σD', r, ec, k⟩ := hq0;unfold ag at ec;rcases h1 : c σD with _ | ⟨x, σ1⟩
 ·rw [h1] at ec; cases ec
 ·rw [h1] at ec; simp only [bind_some] at ec
  obtain ⟨⟨ys, σ2⟩, e2, e3⟩ := cH ec;cases e3;refine ⟨F, R, σD, x, σ1, r, h1, fun F1 H1 v x1 r1 => ?_⟩;refine ⟨F1, _, σ1, ys, σ2, r1, e2, fun F2 H2 vs x2 hl r2 => ?_⟩;refine k F2 H2 (v :: vs) (x1.trans x2) (by simp [hl]) (r2.perm ?_);exact List.perm_middle
noncomputable def dv (ca : DA) : DE := fun σ => (ca σ).bind fun p => if p.1.length <= sizeLine then some (.lst true p.1, p.2) else none
noncomputable def bX (ca : DA) : DE := fun σ => (ca σ).bind fun p => if p.1.length <= sizeLine then some (.tup p.1, p.2) else none
theorem cO {ca : DA} (h : QA X es ca) : QE X (.List es pos) (dv ca) := bH (vb h) fun σ H Q hq0 => by
 obtain ⟨F, R, σD, d, σD', r, ec, k⟩ := hq0;unfold dv at ec;rcases h1 : ca σD with _ | ⟨xs, σ1⟩
 ·rw [h1] at ec; cases ec
 ·rw [h1] at ec; simp only [bind_some] at ec
  split at ec
  ·rename_i hz
   cases ec;refine ⟨F, R, σD, xs, _, r, h1, fun F1 H1 vs x1 hl r1 => ⟨by rw [<- hl]; exact hz, fun p hp => ?_⟩⟩;obtain ⟨r2, x2⟩ := r1.layL hl hp;exact k F1 _ _ (x1.trans x2) r2
  ·cases ec
theorem bB {ca : DA} {x1} (h : QA X es ca) : QE X (.Tuple es x1 pos) (bX ca) := bH (zU h) fun σ H Q hq0 => by
 obtain ⟨F, R, σD, d, σD', r, ec, k⟩ := hq0;unfold bX at ec;rcases h1 : ca σD with _ | ⟨xs, σ1⟩
 ·rw [h1] at ec; cases ec
 ·rw [h1] at ec; simp only [bind_some] at ec
  split at ec
  ·rename_i hz
   cases ec;refine ⟨F, R, σD, xs, _, r, h1, fun F1 H1 vs x1 hl r1 => ⟨by rw [<- hl]; exact hz, fun p hp => ?_⟩⟩;obtain ⟨F2, x2, r2⟩ := r1.layT hl hp;exact k F2 _ _ (x1.trans x2) r2
  ·cases ec
end
section
variable {K : PySem.W.Frag} {F F' : Addr -> Prop} {H H' : Hp} {d x : D} {v w : V} {L : List Addr} {R : Ro} {σD : aZ} {σ : St} {xs : List D} {vs : List V}
theorem OwL.length : ∀ {xs : List D} {vs : List V} {L : List Addr}, OwL K F H xs vs L -> vs.length = xs.length := fun h => h.toP.1.symm
theorem OwL.kid : ∀ {xs : List D} {vs : List V} {L : List Addr} {j : Nat}, OwL K F H xs vs L -> xs[j]? = some x -> ∃ w La Lx Lb, vs[j]? = some w /\ L = La ++ Lx ++ Lb /\ Ow K F H x w Lx /\
  ∀ (F' : Addr -> Prop) (H' : Hp) (x' : D) (Lx' : List Addr), Ext F H F' H' -> (∀ a ∈ La ++ Lb, H' a = H a) -> Ow K F' H' x' w Lx' -> OwL K F' H' (xs.set j x') vs (La ++ Lx' ++ Lb) := by
 intro xs
 induction xs with
 | nil => intro vs L j h e; simp at e
 | cons y ys ih =>
  intro vs L j h e;simp only [OwL] at h;obtain ⟨u, ws, L1, L2, rfl, h1, h2, rfl⟩ := h;cases j with
  | zero =>
   simp at e; subst e;refine ⟨u, [], L1, L2, rfl, rfl, h1, fun F' H' x' Lx' x k o => ?_⟩;simp only [List.set_cons_zero, OwL];exact ⟨u, ws, Lx', L2, rfl, o, h2.mono x fun a ha => k a (by simp [ha]), rfl⟩
  | succ j =>
   obtain ⟨w, La, Lx, Lb, e1, rfl, o, k⟩ := ih (j := j) h2 (by simpa using e);refine ⟨w, L1 ++ La, Lx, Lb, by simpa using e1, by simp, o, fun F' H' x' Lx' x kk o' => ?_⟩;simp only [List.set_cons_succ, OwL];exact ⟨u, ws, L1, La ++ Lx' ++ Lb, rfl, h1.mono x fun a ha => kk a (by simp [ha]), k F' H' x' Lx' x (fun a ha => kk a (by simp at ha ⊢; rcases ha with ha | ha <;> simp [ha])) o', by simp⟩
theorem OwL.get (h : OwL K F H xs vs L) {j : Nat} (e : xs[j]? = some x) : ∃ w, vs[j]? = some w /\ Bor K F H x w := by
 obtain ⟨w, _, Lx, _, e1, _, o, _⟩ := h.kid e;exact ⟨w, e1, Lx, o⟩
theorem OwL.at (h : OwL K F H xs vs L) {i : Int} (e : cy xs i = some x) : ∃ w, cy vs i = some w /\ Bor K F H x w := by
 unfold cy at e ⊢;rw [h.length];rcases hj : fD xs.length i with _ | j
 ·rw [hj] at e; cases e
 ·rw [hj] at e; exact h.get e
theorem Bor.lst {o : Bool} (b : Bor K F H (.lst o xs) v) : ∃ a vs, v = .ref a /\ fg K H a vs /\ ∃ L, OwL K F H xs vs L := by
 obtain ⟨L, h⟩ := b;cases o
 ·simp only [Ow] at h
  obtain ⟨a, vs, rfl, f, r, _⟩ := h;exact ⟨a, vs, rfl, f.sq, _, r⟩
 ·simp only [Ow] at h
  obtain ⟨a, vs, L', rfl, e, r, _⟩ := h;exact ⟨a, vs, rfl, .inl (.inl e), _, r⟩
theorem Bor.tup (b : Bor K F H (.tup xs) v) : ∃ a vs, v = .ref a /\ mq K H a vs /\ ∃ L, OwL K F H xs vs L := by
 obtain ⟨L, h⟩ := b;simp only [Ow] at h;obtain ⟨a, vs, rfl, f, r⟩ := h;exact ⟨a, vs, rfl, f.sq, _, r⟩
noncomputable def ff : D -> D -> Option D
 | .lst _ xs, .int i => cy xs i
 | .tup xs, .int i => cy xs i
 | .str z, .int i => if z.length <= sizeLine then (cy z.cps.toList i).map fun c => .str ⟨#[c]⟩ else none
 | _, _ => none
end
section
variable {X : Cx} {e a b : Expr} {es : List Expr} {p q : DP} {c c' : DE} {pos : Pos}
theorem zD {F : Addr -> Prop} {H : Hp} {dx dy d : D} {x y : V} {Q : VK} (b1 : Bor X.K F H dx x) (b2 : Bor X.K F H dy y) (e : ff dx dy = some d) (k : ∀ v, Bor X.K F H d v -> Q v H) : BV X.K x y H Q := by
 unfold ff at e;split at e
 ·obtain ⟨a, vs, rfl, s, L, r⟩ := b1.lst
  obtain ⟨w, e1, bw⟩ := r.at e;exact .inl ⟨a, vs, _, w, rfl, b2.int, s, e1, k w bw⟩
 ·obtain ⟨a, vs, rfl, s, L, r⟩ := b1.tup
  obtain ⟨w, e1, bw⟩ := r.at e;exact .inr (.inl ⟨a, vs, _, w, rfl, b2.int, s, e1, k w bw⟩)
 ·split at e
  ·rename_i z i hz
   rcases h : cy z.cps.toList i with _ | ch
   ·rw [h] at e; cases e
   ·rw [h] at e; cases e
    exact .inr (.inr ⟨z, i, ch, b1.str, b2.int, hz, h, k _ ⟨[], Ow.of_sc rfl⟩⟩)
  ·cases e
 ·cases e
theorem eN (ha : QB X a p) (hb : QB X b q) (hs : autoParam (lU b) nZ._auto_1) : QB X (.Subscript a b pos) (aU ff p q) := bH (xy vD ha hb hs) fun σ H Q hq0 => by
 obtain ⟨F, R, σD, d, r, ec, k⟩ := hq0;obtain ⟨x, y, e1, e2, eg⟩ := qx ec;refine ⟨F, R, σD, x, r, e1, fun F1 H1 v g1 b1 => ?_⟩;refine ⟨F1, R, σD, y, r.grow g1, e2, fun F2 H2 u g2 b2 => ?_⟩;exact zD (b1.grow g2) b2 eg fun v bv => k F2 H2 v (g1.trans g2) bv
noncomputable def eE (c c' : DE) : DE := fun σ => (c σ).bind fun p => (c' p.2).bind fun q => (ff p.1 q.1).map fun d => (d, q.2)
end
noncomputable def ba (c : DE) : DT := fun σ => (c σ).bind fun p => match p.1 with | .bl b => some (b, p.2) | _ => none
noncomputable def dW (t u : DT) : DT := fun σ => (t σ).bind fun p => if p.1 = true then u p.2 else some (false, p.2)
noncomputable def g8 (t u : DT) : DT := fun σ => (t σ).bind fun p => if p.1 = true then some (true, p.2) else u p.2
noncomputable def lA (t : DT) : DT := fun σ => (t σ).map fun p => (!p.1, p.2)
section
variable {X : Cx} {e a b : Expr} {es dR : List Expr} {p q : DP} {c c' : DE} {t u : DT} {pos : Pos}
theorem gR {σ σ' : aZ} {k : Bool} (h : ba c σ = some (k, σ')) : c σ = some (.bl k, σ') := by
 unfold ba at h;rcases h1 : c σ with _ | ⟨x, σ1⟩
 ·rw [h1] at h; cases h
 ·rw [h1] at h; simp only [bind_some] at h
  split at h
  ·cases h; rfl
  ·cases h
theorem zH (h : QE X e c) (he : autoParam (∀ whole, isTrue e X.env whole = (do let v <- whole; standAt e.pos; holding [v] (truthy v))) kJ._auto_1) : QT X e (ba c) := kc (zM h he) fun σ H Q hq0 => by
 obtain ⟨F, R, σD, k, σD', r, ec, kk⟩ := hq0;refine ⟨F, R, σD, _, σD', r, gR ec, fun F' H' v x r' => ⟨k, (r'.bor (by simp)).bl, kk F' H' x r'.pop⟩⟩
theorem cu {op : CmpOp} {g : D -> D -> Option D} (o : dB X (compareOp op) g) (ha : QE X a c) (hb : QE X b c') (hm : behindInMarks op b = false) : QT X (.Compare a [op] [b] pos) (ba (df g c c')) :=
 kc (lE o.run ha hb hm) fun σ H Q hq0 => by
  obtain ⟨F, R, σD, k, σD', r, ec, kk⟩ := hq0;show kA _ _ _ σ H _;exact BU o ⟨F, R, σD, _, σD', r, gR ec, fun F' H' v x r' => ⟨k, (r'.bor (by simp)).bl, kk F' H' x r'.pop⟩⟩
theorem uS (h : QT X e t) : QT X (.UnaryOp .Not e pos) (lA t) := kc (zN h) fun σ H Q hq0 => by
 obtain ⟨F, R, σD, k, σD', r, ec, kk⟩ := hq0;unfold lA at ec;obtain ⟨⟨b, σ1⟩, e1, e2⟩ := cH ec;cases e2;exact ⟨F, R, σD, b, σ1, r, e1, fun F' H' x r' => kk F' H' x r'⟩
theorem gH (h : QW X e t) : QT X e t := h.pt
theorem fI (h : QT X a t) : QW X (.BoolOp .And [a] pos) t := yt h
theorem kT (h : QT X a t) : QW X (.BoolOp .Or [a] pos) t := zK h
theorem e7 (ha : QT X a t) (hb : QW X (.BoolOp .And (b :: dR) pos) u) : QW X (.BoolOp .And (a :: b :: dR) pos) (dW t u) := v5 (zL ha hb) fun σ H Q hq0 => by
 obtain ⟨F, R, σD, k, σD', r, ec, kk⟩ := hq0;unfold dW at ec;rcases h1 : t σD with _ | ⟨x, σ1⟩
 ·rw [h1] at ec; cases ec
 ·rw [h1] at ec; simp only [bind_some] at ec
  refine ⟨F, R, σD, x, σ1, r, h1, fun F' H' x1 r' => ?_⟩;cases x
  ·simp only [Bool.false_eq_true, if_false] at ec ⊢
   cases ec;exact kk F' H' x1 r'
  ·simp only [if_true] at ec ⊢
   exact ⟨F', R, σ1, k, σD', r', ec, fun F2 H2 x2 r2 => kk F2 H2 (x1.trans x2) r2⟩
theorem jk (ha : QT X a t) (hb : QW X (.BoolOp .Or (b :: dR) pos) u) : QW X (.BoolOp .Or (a :: b :: dR) pos) (g8 t u) := v5 (Bl ha hb) fun σ H Q hq0 => by
 obtain ⟨F, R, σD, k, σD', r, ec, kk⟩ := hq0;unfold g8 at ec;rcases h1 : t σD with _ | ⟨x, σ1⟩
 ·rw [h1] at ec; cases ec
 ·rw [h1] at ec; simp only [bind_some] at ec
  refine ⟨F, R, σD, x, σ1, r, h1, fun F' H' x1 r' => ?_⟩;cases x
  ·simp only [Bool.false_eq_true, if_false] at ec ⊢
   exact ⟨F', R, σ1, k, σD', r', ec, fun F2 H2 x2 r2 => kk F2 H2 (x1.trans x2) r2⟩
  ·simp only [if_true] at ec ⊢
   cases ec;exact kk F' H' x1 r'
end
noncomputable def cK : DS := fun σ => some (.nx σ)
noncomputable def aH (c d : DS) : DS := fun σ => (c σ).bind fun o => match o with | .nx σ' => d σ' | o => some o
noncomputable def bC (i : Nat) (c : DE) : DS := fun σ => (c σ).bind fun p => if i < p.2.length then some (.nx (p.2.set i (some p.1))) else none
noncomputable def dI (t : DT) (c d : DS) : DS := fun σ => (t σ).bind fun p => if p.1 = true then c p.2 else d p.2
noncomputable def bY (c : DE) : DS := fun σ => (c σ).map fun p => .rt p.1 p.2
noncomputable def fx (c : DE) : DS := fun σ => (c σ).map fun p => .nx p.2
noncomputable def tW : DS := fun _ => none
section
variable {X : Cx} {e a b : Expr} {st : Stmt} {sts : List Stmt} {c c' : DE} {s s' : DS} {t u : DT} {pos : Pos} {W W' : List Nat}
theorem bV : mr X [] cK [] := o7 yw fun En σ H hq0 => by
 obtain ⟨F, R, σD, o, r, ec, k⟩ := hq0;cases ec; exact k F H σ Ext.refl Kp.refl r
theorem ai (h1 : QS X st s W) (h2 : mr X sts s' W') : mr X (st :: sts) (aH s s') (W ++ W') := o7 (wk h1 h2) fun En σ H hq0 => by
 obtain ⟨F, R, σD, o, r, ec, k⟩ := hq0;unfold aH at ec;rcases h : s σD with _ | o1
 ·rw [h] at ec; cases ec
 ·rw [h] at ec; simp only [bind_some] at ec
  refine ⟨F, R, σD, o1, r, h, fun F1 H1 σ1 x1 kp1 => ?_⟩;have kp1' : Kp (W ++ W') σ σ1 := kp1.mono fun k hk => by simp [hk]
  cases o1 with
  | nx σ2 =>
   intro r1;refine ⟨F1, R, σ2, o, r1, ec, fun F2 H2 σ3 x2 kp2 => ?_⟩;exact k F2 H2 σ3 (x1.trans x2) (kp1'.trans (kp2.mono fun k hk => by simp [hk]))
  | bk σ2 => cases ec; exact k F1 H1 σ1 x1 kp1'
  | ct σ2 => cases ec; exact k F1 H1 σ1 x1 kp1'
  | rt d σ2 => cases ec; exact k F1 H1 σ1 x1 kp1'
theorem av (h1 : QS X st s W) : mr X [st] s W := yu h1
theorem pi : mr X sts tW [] := o7 u4 fun En σ H hq0 => by obtain ⟨F, R, σD, o, r, ec, k⟩ := hq0; cases ec
theorem bg (i : Nat) {x : Str} {pos' : Pos} (hN : X.N.Nodup) (he : QE X e c) (hi : autoParam (X.N[i]? = some x) bj._auto_1) (hx : autoParam (nX X.env.scope x) xV._auto_1) (hs : autoParam (swapsWith e (some (.Name x pos')) pos.line X.env = pure false) bj._auto_1) (hf : autoParam (X.fn x = true \/ X.env.scope.names.lookup x = some .local) n0._auto_1) :
  QS X (.Assign [.Name x pos'] e pos) (bC i c) [i] := ir (zO hN hi hx he hs hf) fun En σ H hq0 => by
 obtain ⟨F, R, σD, o, r, ec, k⟩ := hq0;unfold bC at ec;rcases h : c σD with _ | ⟨d, σ1⟩
 ·rw [h] at ec; cases ec
 ·rw [h] at ec; simp only [bind_some] at ec
  split at ec
  ·rename_i hl
   cases ec;refine ⟨F, R, σD, d, σ1, r, h, fun F1 H1 v x1 r1 => ?_⟩;exact k F1 H1 _ x1 Kp.set (r1.store (by rw [<- r1.mt.length]; exact hl))
  ·cases ec
theorem cM {as bs : List Stmt} (ht : QT X e t) (ha : mr X as s W) (hb : mr X bs s' W') : QS X (.If e as bs pos) (dI t s s') (W ++ W') := ir (Bm ht ha hb) fun En σ H hq0 => by
 obtain ⟨F, R, σD, o, r, ec, k⟩ := hq0;unfold dI at ec;rcases h : t σD with _ | ⟨x, σ1⟩
 ·rw [h] at ec; cases ec
 ·rw [h] at ec; simp only [bind_some] at ec
  refine ⟨F, R, σD, x, σ1, r, h, fun F1 H1 x1 r1 => ?_⟩;cases x
  ·simp only [Bool.false_eq_true, if_false] at ec ⊢
   exact ⟨F1, R, σ1, o, r1, ec, fun F2 H2 σ2 x2 kp => k F2 H2 σ2 (x1.trans x2) (kp.mono fun k hk => by simp [hk])⟩
  ·simp only [if_true] at ec ⊢
   exact ⟨F1, R, σ1, o, r1, ec, fun F2 H2 σ2 x2 kp => k F2 H2 σ2 (x1.trans x2) (kp.mono fun k hk => by simp [hk])⟩
theorem bx (he : QE X e c) : QS X (.Return (some e) pos) (bY c) [] := ir (zP he) fun En σ H hq0 => by
 obtain ⟨F, R, σD, o, r, ec, k⟩ := hq0;unfold bY at ec;rcases h : c σD with _ | ⟨d, σ1⟩
 ·rw [h] at ec; cases ec
 ·rw [h] at ec; cases ec
  exact ⟨F, R, σD, d, σ1, r, h, fun F1 H1 v x1 r1 => k F1 H1 σ x1 Kp.refl v r1⟩
theorem fj (he : QE X e c) (hs : autoParam (swapsWith e none pos.line X.env = pure false) bj._auto_1) : QS X (.Expr e pos) (fx c) [] := ir (yx he hs) fun En σ H hq0 => by
 obtain ⟨F, R, σD, o, r, ec, k⟩ := hq0;unfold fx at ec;rcases h : c σD with _ | ⟨d, σ1⟩
 ·rw [h] at ec; cases ec
 ·rw [h] at ec; cases ec
  exact ⟨F, R, σD, d, σ1, r, h, fun F1 H1 v x1 r1 => k F1 H1 σ x1 Kp.refl r1.pop⟩
end
noncomputable abbrev DG := D -> aZ -> Option aZ
noncomputable def rG (K : PySem.W.Frag) (g : DG) (W : List Nat) : TG := fun v σ H Q => ∃ F R σD d σD', Rel K F H σD σ ((d, v) :: R) /\ g d σD = some σD' /\ ∀ F' H' σ', Ext F H F' H' -> Kp W σ σ' -> Rel K F' H' σD' σ' R -> Q σ' H'
noncomputable def QG (X : Cx) (tg : Expr) (g : DG) (W : List Nat) : Prop := PG X tg (rG X.K g W)
theorem se {X : Cx} {tg : Expr} {t t' : TG} (h : PG X tg t) (i : ∀ v σ H Q, t' v σ H Q -> t v σ H Q) : PG X tg t' := fun ab s σ H v u Q I rv h' => h ab s σ H v u Q I rv (i v σ H Q h')
noncomputable abbrev pT := List D -> aZ -> Option aZ
noncomputable def CK (K : PySem.W.Frag) (g : pT) (W : List Nat) : nW := fun vs σ H Q => ∃ F R σD ds σD', ds.length = vs.length /\ Rel K F H σD σ (ds.zip vs ++ R) /\ g ds σD = some σD' /\ ∀ F' H' σ', Ext F H F' H' -> Kp W σ σ' -> Rel K F' H' σD' σ' R -> Q σ' H'
noncomputable def xP (X : Cx) (ts : List Expr) (g : pT) (W : List Nat) : Prop := sd X ts (CK X.K g W)
theorem tI {X : Cx} {ts : List Expr} {t t' : nW} (h : sd X ts t) (i : ∀ v σ H Q, t' v σ H Q -> t v σ H Q) : sd X ts t' := fun ab s σ H v u Q I rv h' => h ab s σ H v u Q I rv (i v σ H Q h')
noncomputable def cm (i : Nat) : DG := fun d σ => if i < σ.length then some (σ.set i (some d)) else none
noncomputable def eR : pT := fun ds σ => match ds with | [] => some σ | _ => none
noncomputable def bJ (g : DG) (gs : pT) : pT := fun ds σ => match ds with | d :: r => (g d σ).bind fun σ' => gs r σ' | [] => none
noncomputable def er (n : Nat) (gs : pT) : DG := fun d σ => match d with | .tup xs => if xs.length = n then gs xs σ else none | _ => none
section
variable {X : Cx} {e tg : Expr} {ts : List Expr} {g : DG} {gs : pT} {pos : Pos} {W W' : List Nat}
theorem aS (i : Nat) {x : Str} {pos : Pos} (hN : X.N.Nodup) (hi : autoParam (X.N[i]? = some x) bj._auto_1) (hx : autoParam (nX X.env.scope x) xV._auto_1) (hf : autoParam (X.fn x = true \/ X.env.scope.names.lookup x = some .local) n0._auto_1) :
  QG X (.Name x pos) (cm i) [i] := se (yG hN hi hx hf) fun v σ H Q hq0 => by
 obtain ⟨F, R, σD, d, σD', r, ec, k⟩ := hq0;unfold cm at ec;split at ec
 ·rename_i hl
  cases ec;exact k F H _ Ext.refl Kp.set (r.store (by rw [<- r.mt.length]; exact hl))
 ·cases ec
theorem fk : xP X [] eR [] := tI yF fun vs σ H Q hq0 => by
 obtain ⟨F, R, σD, ds, σD', hl, r, ec, k⟩ := hq0;cases ds with
 | nil => cases ec; exact ⟨List.length_eq_zero_iff.mp hl.symm, k F H σ Ext.refl Kp.refl (by simpa using r)⟩
 | cons d ds => cases ec
theorem bI (h1 : QG X e g W) (h2 : xP X ts gs W') (hs : autoParam ((assignEach (e :: ts) X.env).map (·.2) = assign e X.env :: (assignEach ts X.env).map (·.2)) bj._auto_1) : xP X (e :: ts) (bJ g gs) (W ++ W') :=
 tI (wq h1 h2 hs) fun vs σ H Q hq0 => by
  obtain ⟨F, R, σD, ds, σD', hl, r, ec, k⟩ := hq0;cases ds with
  | nil => cases ec
  | cons d ds =>
   cases vs with
   | nil => simp at hl
   | cons v vs =>
    simp only [bJ] at ec;rcases h : g d σD with _ | σ1
    ·rw [h] at ec; cases ec
    ·rw [h] at ec; simp only [bind_some] at ec
     refine ⟨v, vs, rfl, F, ds.zip vs ++ R, σD, d, σ1, by simpa using r, h, fun F1 H1 σ2 x1 kp1 r1 => ?_⟩;exact ⟨F1, R, σ1, ds, σD', by simpa using hl, r1, ec, fun F2 H2 σ3 x2 kp2 r2 => k F2 H2 σ3 (x1.trans x2) ((kp1.mono fun k hk => by simp [hk]).trans (kp2.mono fun k hk => by simp [hk])) r2⟩
theorem fW {n : Nat} {k : Nat} (hc : X.calm = true) (h : xP X ts gs W) (hn : autoParam ((assignEach ts X.env).length = n) bj._auto_1) (hst : autoParam ((assignEach ts X.env).findIdx? (·.1) = none) bj._auto_1) : QG X (.Tuple ts k pos) (er n gs) W :=
 se (zS hc h hn hst) fun v σ H Q hq0 => by
  obtain ⟨F, R, σD, d, σD', r, ec, k⟩ := hq0;unfold er at ec;split at ec
  ·rename_i xs
   split at ec
   ·rename_i hxn
    obtain ⟨a, vs, rfl, ft, hl, r1⟩ := r.openT;exact ⟨a, vs, rfl, ft.sq, by rw [<- hl]; exact hxn, F, R, σD, xs, σD', hl, r1, ec, k⟩
   ·cases ec
  ·cases ec
noncomputable def gG (c : DE) (g : DG) : DS := fun σ => (c σ).bind fun p => (g p.1 p.2).map .nx
theorem ij {c : DE} (he : QE X e c) (hg : QG X tg g W) (hs : autoParam (swapsWithSole [tg] e pos.line X.env = pure false) bj._auto_1) (hw : autoParam (swappedStores [tg] e X.env = pure none) bj._auto_1)
  (h1 : autoParam ((assignEach [tg] X.env).map (·.2) = [assign tg X.env]) bj._auto_1) : QS X (.Assign [tg] e pos) (gG c g) W := ir (zR he hg hs hw h1) fun En σ H hq0 => by
 obtain ⟨F, R, σD, o, r, ec, k⟩ := hq0;unfold gG at ec;rcases h : c σD with _ | ⟨d, σ1⟩
 ·rw [h] at ec; cases ec
 ·rw [h] at ec; simp only [bind_some] at ec
  rcases h2 : g d σ1 with _ | σ2
  ·rw [h2] at ec; cases ec
  ·rw [h2] at ec; cases ec
   refine ⟨F, R, σD, d, σ1, r, h, fun F1 H1 v x1 r1 => ?_⟩;exact ⟨F1, R, σ1, d, σ2, r1, h2, fun F2 H2 σ3 x2 kp r2 => k F2 H2 σ3 (x1.trans x2) kp r2⟩
end
noncomputable def eS (g : DG) (b : DS) : List D -> aZ -> Option Out
 | [], σ => some (.nx σ)
 | x :: xs, σ => (g x σ).bind fun σ1 => (b σ1).bind fun o => match o with
  | .nx σ2 => eS g b xs σ2
  | .ct σ2 => eS g b xs σ2
  | .bk σ2 => some (.nx σ2)
  | .rt d σ2 => some (.rt d σ2)
noncomputable def iX (lo hi : Int) : List D := (List.range (hi - lo).toNat).map fun (k : Nat) => D.int (lo + k)
noncomputable def qq (i : Int) : Bool := decide (-(2 ^ 62) <= i /\ i < 2 ^ 62)
section
variable {X : Cx} {e tg : Expr} {ts : List Expr} {g : DG} {c : DE} {s : DS} {pos : Pos} {W W' : List Nat} {body : List Stmt}
theorem xY {F0 F : Addr -> Prop} {H0 H : Hp} {R R0 : Ro} {σD : aZ} {σ0 σ : St} {x : D} {v : V} {xs : List D} {En : lw} {N : St -> Hp -> Prop} {o : Out} (hR : ∀ F' H', Ext F H F' H' -> ∀ σD' σ' S, Rel X.K F' H' σD' σ' (S ++ R) -> Rel X.K F' H' σD' σ' (S ++ R0))
  (r : Rel X.K F H σD σ ((x, v) :: R)) (x0 : Ext F0 H0 F H) (kp : Kp (W ++ W') σ0 σ) (h : eS g s (x :: xs) σD = some o)
  (k : ∀ F' H' σ', Ext F0 H0 F' H' -> Kp (W ++ W') σ0 σ' -> Th X.K En R0 F' H' σ' o)
  (hN : ∀ F' H' σD' σ', Ext F H F' H' -> Kp (W ++ W') σ0 σ' -> Rel X.K F' H' σD' σ' R -> eS g s xs σD' = some o -> N σ' H') :
  rG X.K g W v σ H fun σ2 H2 => rS X.K s W' { En with nx := N, ct := N, bk := En.nx } σ2 H2 := by
 simp only [eS] at h;rcases h1 : g x σD with _ | σ1
 ·rw [h1] at h; cases h
 ·rw [h1] at h; simp only [bind_some] at h
  rcases h2 : s σ1 with _ | o1
  ·rw [h2] at h; cases h
  ·rw [h2] at h; simp only [bind_some] at h
   refine ⟨F, R, σD, x, σ1, r, h1, fun F1 H1 σ2 x1 kp1 r1 => ?_⟩;refine ⟨F1, R, σ1, o1, r1, h2, fun F2 H2 σ3 x2 kp2 => ?_⟩;have kp3 : Kp (W ++ W') σ0 σ3 := (kp.trans (kp1.mono fun k hk => by simp [hk])).trans (kp2.mono fun k hk => by simp [hk]);cases o1 with
   | nx σ4 => exact fun r2 => hN F2 H2 σ4 σ3 (x1.trans x2) kp3 r2 h
   | ct σ4 => exact fun r2 => hN F2 H2 σ4 σ3 (x1.trans x2) kp3 r2 h
   | bk σ4 =>
    cases h;exact fun r2 => k F2 H2 σ3 (x0.trans (x1.trans x2)) kp3 (hR F2 H2 (x1.trans x2) _ _ [] r2)
   | rt d σ4 =>
    cases h;exact fun v r2 => k F2 H2 σ3 (x0.trans (x1.trans x2)) kp3 v (hR F2 H2 (x1.trans x2) _ _ [(d, v)] r2)
noncomputable def kD (t : DT) (b : DS) : Nat -> aZ -> Option Out
 | 0, _ => none
 | n + 1, σ => (t σ).bind fun p => if p.1 = true then (b p.2).bind fun o => match o with
  | .nx σ2 => kD t b n σ2
  | .ct σ2 => kD t b n σ2
  | .bk σ2 => some (.nx σ2)
  | .rt d σ2 => some (.rt d σ2) else some (.nx p.2)
noncomputable def sC (fuel : aZ -> Nat) (t : DT) (b : DS) : DS := fun σ => kD t b (fuel σ) σ
theorem mI {t : DT} {fuel : aZ -> Nat} (ht : QT X e t) (hb : mr X body s W) (hp : PassesOwn (model X.prog X.w) X.A X.env X.xe) : QS X (.While e body [] pos) (sC fuel t s) W :=
 ir (wl hp ht hb) fun En σ H hq0 => by
  obtain ⟨F, R, σD, o, r, ec, k⟩ := hq0;unfold sC at ec;refine ⟨fun m σ1 H1 => ∃ F1 σD1, Ext F H F1 H1 /\ Kp W σ σ1 /\ Rel X.K F1 H1 σD1 σ1 R /\ kD t s m σD1 = some o, ⟨_, F, σD, Ext.refl, Kp.refl, r, ec⟩, ?_⟩;rintro m σ1 H1 ⟨F1, σD1, x1, kp1, r1, h1⟩;cases m with
  | zero => cases h1
  | succ m =>
   simp only [kD] at h1;rcases h : t σD1 with _ | ⟨b, σ2⟩
   ·rw [h] at h1; cases h1
   ·rw [h] at h1; simp only [bind_some] at h1
    refine ⟨F1, R, σD1, b, σ2, r1, h, fun F2 H2 x2 r2 => ?_⟩;cases b
    ·simp only [Bool.false_eq_true, if_false] at h1 ⊢
     cases h1;exact k F2 H2 σ1 (x1.trans x2) kp1 r2
    ·simp only [if_true] at h1 ⊢
     rcases h3 : s σ2 with _ | o1
     ·rw [h3] at h1; cases h1
     ·rw [h3] at h1; simp only [bind_some] at h1
      refine ⟨fun σ' H' => ∃ F1 σD1, Ext F H F1 H' /\ Kp W σ σ' /\ Rel X.K F1 H' σD1 σ' R /\ kD t s m σD1 = some o, fun σ' H' q => ⟨m, Nat.lt_succ_self m, q⟩, ?_⟩;refine ⟨F2, R, σ2, o1, r2, h3, fun F3 H3 σ3 x3 kp3 => ?_⟩;have kp4 := kp1.trans kp3;have x4 := (x1.trans x2).trans x3;cases o1 with
      | nx σ4 => exact fun r3 => ⟨F3, σ4, x4, kp4, r3, h1⟩
      | ct σ4 => exact fun r3 => ⟨F3, σ4, x4, kp4, r3, h1⟩
      | bk σ4 => cases h1; exact fun r3 => k F3 H3 σ3 x4 kp4 r3
      | rt d σ4 => cases h1; exact fun v r3 => k F3 H3 σ3 x4 kp4 v r3
end
noncomputable abbrev GF := List D -> Option (D × List D)
noncomputable def dH (K : PySem.W.Frag) (n : Nat) (g : GF) : Sp := fun vs H Q _ => vs.length = n /\ ∃ F R ds r ds', ds.length = vs.length /\ G K F H (ds.zip vs ++ R) /\ g ds = some (r, ds') /\
 ∀ F' H' v, Ext F H F' H' -> ds'.length = vs.length -> G K F' H' ((r, v) :: (ds'.zip vs ++ R)) -> Q v H'
noncomputable def kB (W : List Nat) : Nat -> List D -> List D
 | _, [] => []
 | k, d :: ds => (if k ∈ W then d.fz else d) :: kB W (k + 1) ds
noncomputable def gK (W : List Nat) (σ : aZ) : Nat -> List D -> List D
 | _, [] => []
 | k, d :: ds => (if k ∈ W then d.fz else (da σ k).getD .hole) :: gK W σ (k + 1) ds
noncomputable def d9 (N : Nat) (W : List Nat) (c : DS) : GF := fun ds => (c ((kB W 0 ds).map some ++ List.replicate (N - ds.length) none)).bind fun o => match o with
 | .rt d σ => some (d, gK W σ 0 ds)
 | .nx σ => some (.non, gK W σ 0 ds)
 | _ => none
section
variable {K : PySem.W.Frag} {F F' : Addr -> Prop} {H H' : Hp}
noncomputable def me (W : List Nat) : Nat -> List D -> List V -> Ro
 | k, d :: ds, v :: vs => if k ∈ W then (d.fz, v) :: me W (k + 1) ds vs else me W (k + 1) ds vs
 | _, _, _ => []
theorem nJ (W : List Nat) : ∀ (k : Nat) (ds : List D), (kB W k ds).length = ds.length
 | _, [] => rfl
 | k, d :: ds => by simp [kB, nJ W (k + 1) ds]
theorem jG (W : List Nat) (σ : aZ) : ∀ (k : Nat) (ds : List D), (gK W σ k ds).length = ds.length
 | _, [] => rfl
 | k, d :: ds => by simp [gK, jG W σ (k + 1) ds]
theorem pull {α : Type} {x : α} {A B C : List α} : (A ++ (B ++ x :: C)).Perm (x :: (A ++ (B ++ C))) := ((List.perm_middle (a := x) (l₁ := B) (l₂ := C)).append_left A).trans List.perm_middle
theorem uo (W : List Nat) : ∀ {ds : List D} {vs : List V} {k : Nat} {F : Addr -> Prop} {R : Ro}, ds.length = vs.length -> G K F H (ds.zip vs ++ R) -> ∃ F', Ext F H F' H /\ G K F' H ((kB W k ds).zip vs ++ (me W k ds vs ++ R))
 | [], [], _, F, R, _, g => ⟨F, Ext.refl, g⟩
 | d :: ds, v :: vs, k, F, R, hl, g => by
  have hl' : ds.length = vs.length := by simpa using hl
  have g0 : G K F H ((d, v) :: (ds.zip vs ++ R)) := by simpa using g
  by_cases hk : k ∈ W
  ·obtain ⟨F1, x1, g1, o1⟩ := g0.freeze
   have g2 : G K F1 H (ds.zip vs ++ ((d.fz, v) :: (d.fz, v) :: R)) := (g1.push o1).perm (((List.perm_middle).symm.cons _).trans (List.perm_middle).symm);obtain ⟨F2, x2, g3⟩ := uo W (k := k + 1) hl' g2;refine ⟨F2, x1.trans x2, ?_⟩;simp only [kB, me, hk, if_true, List.zip_cons_cons];exact g3.perm (pull.trans ((List.perm_middle.append_left _).cons _))
  ·obtain ⟨F2, x2, g3⟩ := uo W (k := k + 1) (R := (d, v) :: R) hl' (g0.perm (List.perm_middle.symm))
   refine ⟨F2, x2, ?_⟩;simp only [kB, me, hk, if_false, List.zip_cons_cons];exact g3.perm pull
theorem su {σ : aZ} {i j : Nat} {o : Option D} (h : i ≠ j) : da (σ.set i o) j = da σ j := by
 unfold da; rw [List.getElem?_set_ne h]
theorem qA (W : List Nat) {σ : aZ} {o : Option D} {i : Nat} : ∀ {k : Nat} {ds : List D}, i < k -> gK W (σ.set i o) k ds = gK W σ k ds
 | _, [], _ => rfl
 | k, d :: ds, h => by simp only [gK]; rw [su oM, qA W (k := k + 1) oM]
theorem xK (W : List Nat) {σ : St} : ∀ {ds : List D} {vs : List V} {k : Nat} {σD : aZ} {R : Ro}, ds.length = vs.length -> (∀ (j : Nat) v, vs[j]? = some v -> k + j ∉ W -> σ[k + j]? = some (some v)) ->
  Rel K F H σD σ (me W k ds vs ++ R) -> ∃ σD2, Rel K F H σD2 σ ((gK W σD k ds).zip vs ++ R) := by
 intro ds
 induction ds with
 | nil =>
  intro vs k σD R hl hv r;cases vs with
  | nil => exact ⟨σD, r⟩
  | cons _ _ => cases hl
 | cons d ds ih =>
  intro vs k σD R hl hv r;cases vs with
  | nil => cases hl
  | cons v vs =>
   have hl' : ds.length = vs.length := by simpa using hl
   have hv' : ∀ (j : Nat) u, vs[j]? = some u -> k + 1 + j ∉ W -> σ[k + 1 + j]? = some (some u) := fun j u e h => by
    have q := hv (j + 1) u (by simpa using e) (by rw [show k + (j + 1) = k + 1 + j by omega]; exact h);rw [show k + (j + 1) = k + 1 + j by omega] at q; exact q
   by_cases hk : k ∈ W
   ·simp only [me, hk, if_true] at r
    obtain ⟨σ2, r2⟩ := ih (k := k + 1) (R := (d.fz, v) :: R) hl' hv' (r.perm List.perm_middle.symm);refine ⟨σ2, ?_⟩;simp only [gK, hk, if_true, List.zip_cons_cons];exact r2.perm List.perm_middle
   ·simp only [me, hk, if_false] at r
    have e0 : σ[k]? = some (some v) := by simpa using hv 0 v rfl (by simpa using hk)
    rcases hd : da σD k with _ | dk
    ·have r1 : Rel K F H σD σ ((.hole, v) :: (me W (k + 1) ds vs ++ R)) := r.push (by simp only [Ow])
     obtain ⟨σ2, r2⟩ := ih (k := k + 1) (R := (.hole, v) :: R) hl' hv' (r1.perm List.perm_middle.symm);refine ⟨σ2, ?_⟩;simp only [gK, hk, if_false, List.zip_cons_cons, hd, Option.getD_none];exact r2.perm List.perm_middle
    ·obtain ⟨v', hv1, r1⟩ := r.take (cG hd)
     rw [e0] at hv1; cases hv1;obtain ⟨σ2, r2⟩ := ih (k := k + 1) (R := (dk, v) :: R) hl' hv' (r1.perm List.perm_middle.symm);refine ⟨σ2, ?_⟩;simp only [gK, hk, if_false, List.zip_cons_cons, hd, Option.getD_some];rw [qA W (Nat.lt_succ_self k)] at r2;exact r2.perm List.perm_middle
theorem mH : ∀ {n : Nat} {σ : St}, sl (List.replicate n none) σ = []
 | 0, σ => by cases σ <;> rfl
 | n + 1, [] => rfl
 | n + 1, o :: σ => by rw [List.replicate_succ]; exact mH (n := n) (σ := σ)
theorem qf : ∀ {ds : List D} {vs : List V} {n : Nat}, ds.length = vs.length -> sl (ds.map some ++ List.replicate n none) (vs.map some ++ List.replicate n none) = ds.zip vs
 | [], [], n, _ => by simpa using mH
 | d :: ds, v :: vs, n, h => by
  show (d, v) :: sl (ds.map some ++ List.replicate n none) (vs.map some ++ List.replicate n none) = _;rw [qf (by simpa using h)]; rfl
theorem oA : ∀ {n : Nat}, Mt (List.replicate n none) (List.replicate n none)
 | 0 => trivial
 | n + 1 => by rw [List.replicate_succ, List.replicate_succ]; exact oA (n := n)
theorem qI : ∀ {ds : List D} {vs : List V} {n : Nat}, ds.length = vs.length -> Mt (ds.map some ++ List.replicate n none) (vs.map some ++ List.replicate n none)
 | [], [], n, _ => by simpa using oA
 | d :: ds, v :: vs, n, h => qI (ds := ds) (vs := vs) (n := n) (by simpa using h)
end
section
variable {P : Program} {w : World} {K : PySem.W.Frag} {mg : Str -> Option Value} {base : Heap}
theorem dF {x qual : Str} {st : Stmt} {f : Addr} {fd : FuncData} {N ps : List Str} {k : Nat} {W : List Nat} {c : DS} (F : Fun K x qual st f fd) (S : bO N ps (bh st)) (hnp : ps.length <= N.length)
  (hbody : ∀ (cdv : Value) (A : Around) (outer : List Env) (s : Shared) (H : Hp) (E : XK), Room k (A.deeper (envOfC qual (bh st) s.heap.objs.size f cdv)) ->
   mr (nc dD P w K mg base N qual (bh st) f cdv A outer s H E).nox (h8 st) c W) :
  cL P w K mg base dD (k + 1) f fd ps (dH K ps.length (d9 N.length W c)) := by
 refine F.ok S (fun vs H Q E h => h.1) (fun cdv A outer s H vs Q E hr h => ?_);obtain ⟨hlen, F0, R, ds, r, ds', hl, g, eg, kk⟩ := h;refine ⟨_, hbody cdv A outer s H E hr, ?_⟩;show rS K c W _ _ _;unfold d9 at eg;obtain ⟨F1, x1, g1⟩ := uo W (k := 0) hl g;have hl2 : (kB W 0 ds).length = vs.length := by rw [nJ]; exact hl
 have est : L2.start N vs = vs.map some ++ List.replicate (N.length - ds.length) none := by unfold L2.start; rw [hl]
 have r0 : Rel K F1 H ((kB W 0 ds).map some ++ List.replicate (N.length - ds.length) none) (L2.start N vs) (me W 0 ds vs ++ R) := by
  rw [est];exact ⟨qI hl2, by rw [qf hl2]; exact g1⟩
 rcases h : c ((kB W 0 ds).map some ++ List.replicate (N.length - ds.length) none) with _ | o
 ·rw [h] at eg; cases eg
 ·rw [h] at eg; simp only [bind_some] at eg
  refine ⟨F1, _, _, o, r0, h, fun F2 H2 σ2 x2 kp => ?_⟩;have hv : ∀ (j : Nat) v, vs[j]? = some v -> 0 + j ∉ W -> σ2[0 + j]? = some (some v) := fun j v e hj => by
   rw [kp (0 + j) hj, Nat.zero_add, est];have hjl : j < vs.length := (List.getElem?_eq_some_iff.mp e).1;rw [List.getElem?_append_left (by simpa using hjl)];simp [e]
  cases o with
  | nx σ3 =>
   cases eg;intro r3;obtain ⟨σ4, r4⟩ := xK W (k := 0) hl hv r3;exact kk F2 H2 .non (x1.trans x2) (by rw [jG]; exact hl) ((r4.scal (d := .non) (w := .non) rfl).g.popN)
  | rt d σ3 =>
   cases eg;intro v r3;obtain ⟨σ4, r4⟩ := xK W (k := 0) (R := (_, v) :: R) hl hv (r3.perm List.perm_middle.symm);exact kk F2 H2 v (x1.trans x2) (by rw [jG]; exact hl) ((r4.perm List.perm_middle).g.popN)
  | bk σ3 => cases eg
  | ct σ3 => cases eg
end
inductive Arg where
 | bo (i : Nat) | ex (c : DE)
noncomputable def mf : List Arg -> aZ -> Option (List (Option D) × aZ)
 | [], σ => some ([], σ)
 | .bo i :: as, σ => (da σ i).bind fun _ => (mf as σ).map fun p => (none :: p.1, p.2)
 | .ex c :: as, σ => (c σ).bind fun q => (mf as q.2).map fun p => (some q.1 :: p.1, p.2)
noncomputable def fL : List Arg -> List (Option D) -> aZ -> Option (List D × aZ)
 | .bo i :: as, none :: os, σ => (da σ i).bind fun d => match d.sc with
  | some _ => (fL as os σ).map fun p => (d :: p.1, p.2)
  | none => (fL as os (σ.set i none)).map fun p => (d :: p.1, p.2)
 | .ex _ :: as, some d :: os, σ => (fL as os σ).map fun p => (d :: p.1, p.2)
 | [], [], σ => some ([], σ)
 | _, _, _ => none
noncomputable def ib : List Arg -> List D -> aZ -> aZ
 | .bo i :: as, d :: ds, σ => match d.sc with
  | some _ => ib as ds σ
  | none => ib as ds (σ.set i (some d))
 | .ex _ :: as, _ :: ds, σ => ib as ds σ
 | _, _, σ => σ
noncomputable def bf (g : GF) (as : List Arg) : DE := fun σ => (mf as σ).bind fun p => (fL as p.1 p.2).bind fun q => (g q.1).map fun r => (r.1, ib as r.2 q.2)
noncomputable def OkM : List Arg -> List (Option D) -> List V -> St -> Prop
 | .bo i :: as, none :: os, v :: vs, σ => σ[i]? = some (some v) /\ OkM as os vs σ
 | .ex _ :: as, some _ :: os, _ :: vs, σ => OkM as os vs σ
 | [], [], [], _ => True
 | _, _, _, _ => False
noncomputable def tz : List (Option D) -> List V -> Ro
 | none :: os, _ :: vs => tz os vs
 | some d :: os, v :: vs => (d, v) :: tz os vs
 | _, _ => []
noncomputable def rM (K : PySem.W.Frag) (as : List Arg) : TA := fun σ H Q => ∃ F R σD os σD', Rel K F H σD σ R /\ mf as σD = some (os, σD') /\ ∀ F' H' vs, Ext F H F' H' -> OkM as os vs σ -> Rel K F' H' σD' σ (tz os vs ++ R) -> Q vs H'
noncomputable def QM (X : Cx) (es : List Expr) (as : List Arg) : Prop := PA X es (rM X.K as)
section
variable {X : Cx} {e : Expr} {es : List Expr} {as : List Arg} {c : DE}
theorem aX : QM X [] [] := jg fZ fun σ H Q hq0 => by
 obtain ⟨F, R, σD, os, σD', r, ec, k⟩ := hq0;cases ec; exact k F H [] Ext.refl trivial r
theorem cJ (ha : QE X e c) (hr : QM X es as) (hs : autoParam (starEach (e :: es) X.env = (false, eval e X.env) :: starEach es X.env) bj._auto_1) : QM X (e :: es) (.ex c :: as) := jg (eB ha hr hs) fun σ H Q hq0 => by
 obtain ⟨F, R, σD, os, σD', r, ec, k⟩ := hq0;simp only [mf] at ec;rcases h1 : c σD with _ | ⟨x, σ1⟩
 ·rw [h1] at ec; cases ec
 ·rw [h1] at ec; simp only [bind_some] at ec
  obtain ⟨⟨os2, σ2⟩, e2, e3⟩ := cH ec;cases e3;refine ⟨F, R, σD, x, σ1, r, h1, fun F1 H1 v x1 r1 => ?_⟩;refine ⟨F1, _, σ1, os2, σ2, r1, e2, fun F2 H2 vs x2 ok r2 => ?_⟩;exact k F2 H2 (v :: vs) (x1.trans x2) ok (r2.perm List.perm_middle)
theorem ay (i : Nat) {x : Str} {pos : Pos} (hr : QM X es as) (hN : autoParam (X.N[i]? = some x) bj._auto_1) (hv : autoParam (kH X.env.scope x) mv._auto_1) (hd : autoParam ((x == ("__debug__" : Str)) = false) cz._auto_1)
  (hcd : autoParam ((x == ("__classdict__" : Str)) = false) cz._auto_1) (hs : autoParam (starEach (.Name x pos :: es) X.env = (false, eval (.Name x pos) X.env) :: starEach es X.env) bj._auto_1) : QM X (.Name x pos :: es) (.bo i :: as) :=
 jg (eB (fY hN hv hd hcd) hr hs) fun σ H Q hq0 => by
  obtain ⟨F, R, σD, os, σD', r, ec, k⟩ := hq0;simp only [mf] at ec;rcases h1 : da σD i with _ | d
  ·rw [h1] at ec; cases ec
  ·rw [h1] at ec; simp only [bind_some] at ec
   obtain ⟨⟨os2, σ2⟩, e2, e3⟩ := cH ec;cases e3;obtain ⟨v, hv, b⟩ := r.get (cG h1);refine ⟨v, hv, F, R, σD, os2, σ2, r, e2, fun F2 H2 vs x2 ok r2 => ?_⟩;exact k F2 H2 (v :: vs) x2 ⟨hv, ok⟩ r2
variable {K : PySem.W.Frag} {F F' : Addr -> Prop} {H H' : Hp}
theorem y8 : ∀ {as : List Arg} {os : List (Option D)} {vs : List V} {σ : St} {σD : aZ} {R : Ro} {ds : List D} {σD' : aZ}, OkM as os vs σ -> fL as os σD = some (ds, σD') -> Rel K F H σD σ (tz os vs ++ R) ->
  ds.length = vs.length /\ Rel K F H σD' σ (ds.zip vs ++ R) := by
 intro as
 induction as with
 | nil =>
  intro os vs σ σD R ds σD' ok e r;cases os with
  | nil => cases vs with
   | nil => simp only [fL] at e; cases e; exact ⟨rfl, r⟩
   | cons _ _ => exact ok.elim
  | cons _ _ => exact ok.elim
 | cons a as ih =>
  intro os vs σ σD R ds σD' ok e r;cases os with
  | nil => cases a <;> exact ok.elim
  | cons o os => cases vs with
   | nil => cases a <;> cases o <;> exact ok.elim
   | cons v vs => cases a with
    | bo i => cases o with
     | some _ => exact ok.elim
     | none =>
      obtain ⟨hv, ok⟩ := ok;simp only [fL] at e;rcases h1 : da σD i with _ | d
      ·rw [h1] at e; cases e
      ·rw [h1] at e; simp only [bind_some] at e
       obtain ⟨v', hv1, r1⟩ := r.take (cG h1);rw [hv] at hv1; cases hv1;rcases hs : d.sc with _ | wv
       ·rw [hs] at e
        obtain ⟨⟨ds2, σ2⟩, e2, e3⟩ := cH e;cases e3;obtain ⟨l, r2⟩ := ih (R := (d, v) :: R) ok e2 (r1.perm List.perm_middle.symm);exact ⟨by simp [l], r2.perm List.perm_middle⟩
       ·rw [hs] at e
        obtain ⟨⟨ds2, σ2⟩, e2, e3⟩ := cH e;cases e3;have ev : v = wv := (r1.bor (by simp)).sc hs;subst ev;obtain ⟨l, r2⟩ := ih (R := R) ok e2 r;exact ⟨by simp [l], r2.scal hs⟩
    | ex _ => cases o with
     | none => exact ok.elim
     | some d =>
      simp only [fL] at e;obtain ⟨⟨ds2, σ2⟩, e2, e3⟩ := cH e;cases e3;obtain ⟨l, r2⟩ := ih (os := os) (vs := vs) (R := (d, v) :: R) ok e2 (r.perm (List.perm_middle (l₁ := tz os vs)).symm);exact ⟨by simp [l], r2.perm List.perm_middle⟩
theorem zh : ∀ {as : List Arg} {os : List (Option D)} {vs : List V} {σ : St} {σD : aZ} {R : Ro} {ds : List D}, OkM as os vs σ -> ds.length = vs.length -> Rel K F H σD σ (ds.zip vs ++ R) -> Rel K F H (ib as ds σD) σ R := by
 intro as
 induction as with
 | nil =>
  intro os vs σ σD R ds ok l r;cases os with
  | nil => cases vs with
   | nil => cases ds with
    | nil => exact r
    | cons _ _ => cases l
   | cons _ _ => exact ok.elim
  | cons _ _ => exact ok.elim
 | cons a as ih =>
  intro os vs σ σD R ds ok l r;cases os with
  | nil => cases a <;> exact ok.elim
  | cons o os => cases vs with
   | nil => cases a <;> cases o <;> exact ok.elim
   | cons v vs => cases ds with
    | nil => cases l
    | cons d ds =>
     have l' : ds.length = vs.length := by simpa using l
     cases a with
     | bo i => cases o with
      | some _ => exact ok.elim
      | none =>
       obtain ⟨hv, ok⟩ := ok;simp only [ib];rcases hs : d.sc with _ | wv
       ·exact ih ok l' (Rel.put (R := ds.zip vs ++ R) r hv)
       ·exact ih ok l' (Rel.pop (R := ds.zip vs ++ R) r)
     | ex _ => cases o with
      | none => exact ok.elim
      | some d' => exact ih (os := os) ok l' (Rel.pop (R := ds.zip vs ++ R) r)
theorem OkM.length : ∀ {as : List Arg} {os : List (Option D)} {vs : List V} {σ : St}, OkM as os vs σ -> vs.length = as.length := by
 intro as
 induction as with
 | nil =>
  intro os vs σ ok;cases os with
  | nil => cases vs with
   | nil => rfl
   | cons _ _ => exact ok.elim
  | cons _ _ => exact ok.elim
 | cons a as ih =>
  intro os vs σ ok;cases os with
  | nil => cases a <;> exact ok.elim
  | cons o os => cases vs with
   | nil => cases a <;> cases o <;> exact ok.elim
   | cons v vs => cases a with
    | bo i => cases o with
     | some _ => exact ok.elim
     | none => exact congrArg (· + 1) (ih (os := os) (vs := vs) ok.2)
    | ex _ => cases o with
     | none => exact ok.elim
     | some _ => exact congrArg (· + 1) (ih (os := os) (vs := vs) (σ := σ) ok)
theorem Bh {n : Nat} {g : GF} {E : XK} {σ : St} {H : Hp} {Q : VK} (hn : as.length = n) (h : rE K (bf g as) σ H Q) : xq (dH K n g) [] E (rM K as) σ H Q := by
 obtain ⟨F, R, σD, d, σD', r, ec, k⟩ := h;unfold bf at ec;rcases h1 : mf as σD with _ | ⟨os, σ1⟩
 ·rw [h1] at ec; cases ec
 ·rw [h1] at ec; simp only [bind_some] at ec
  rcases h2 : fL as os σ1 with _ | ⟨ds, σ2⟩
  ·rw [h2] at ec; cases ec
  ·rw [h2] at ec; simp only [bind_some] at ec
   obtain ⟨⟨d', ds'⟩, e2, e3⟩ := cH ec;cases e3;refine ⟨F, R, σD, os, σ1, r, h1, fun F1 H1 vs x1 ok r1 => ?_⟩;obtain ⟨l, r2⟩ := y8 ok h2 r1;have lv : vs.length = n := by rw [<- hn]; exact ok.length
   refine ⟨by simpa using lv, F1, sl σ2 σ ++ R, ds, _, ds', by simpa using l, ?_, e2, fun F2 H2 v x2 l2 g2 => ?_⟩
   ·rw [List.append_nil]
    exact r2.g.perm (by rw [<- List.append_assoc, <- List.append_assoc]; exact List.perm_append_comm.append_right R)
   ·refine k F2 H2 v (x1.trans x2) ?_
    rw [List.append_nil] at l2 g2;refine zh (R := (_, v) :: R) ok l2 ⟨r2.mt, g2.perm ?_⟩;exact ((pull (x := (_, v)) (A := sl σ2 σ) (B := ds'.zip vs) (C := R)).trans ((List.perm_append_comm_assoc _ _ _).cons _)).symm
theorem aN {k : Nat} {f : Addr} {fd : FuncData} {ps : List Str} {g : GF} {x : Str} {p pos : Pos} (F : cL X.prog X.w X.K X.mg X.base dD k f fd ps (dH X.K ps.length g)) (hr : Room k X.A) (hg : Gl X x) (hm : X.mg x = some (.ref f)) (hk : keepIn X.K (.ref f) = true) (hb : Binds X.K fd ps [])
  (ha : QM X (e :: es) as) (hn : autoParam (as.length = ps.length) bj._auto_1) (hdb : autoParam ((x == ("__debug__" : Str)) = false) cz._auto_1) (he : autoParam (starEach (e :: es) X.env = (false, eval e X.env) :: starEach es X.env) bj._auto_1) (hpl : autoParam ((backTo pos (starEach es X.env)).any (·.1) = false) bj._auto_1) :
  QE X (.Call (.Name x p) (e :: es) [] pos) (bf g as) := bH (yH (E := E0) F hr hg hm hk hb .nil Bt ha hdb he hpl) fun _ _ _ h => Bh hn h
end
end DD
namespace L2
open PySem PySem.Spec PyProof.Rows
theorem nR : ∀ (names : List (Str × NameKind)) (n : Nat) (acc : List (Str × Addr)), ∃ own, cellsFrom n names acc = own ++ acc /\ (∀ p ∈ own, n <= p.2 /\ (p.1, NameKind.cell) ∈ names) /\
  (∀ x, (x, NameKind.cell) ∈ names -> ∃ c, (x, c) ∈ own) /\ own.Pairwise fun x y => x.2 ≠ y.2
 | [], n, acc => ⟨[], rfl, (fun _ h => by cases h), (fun _ h => by cases h), List.Pairwise.nil⟩
 | (name, kind) :: r, n, acc => by
  unfold cellsFrom;by_cases hk : kind = .cell
  ·subst hk
   obtain ⟨own, e, h1, h2, h3⟩ := nR r (n + 1) ((name, n) :: acc);refine ⟨own ++ [(name, n)], ?_, ?_, ?_, ?_⟩
   ·rw [if_pos dC, e, List.append_assoc]; rfl
   ·intro p hp
    rcases List.mem_append.mp hp with hp | hp
    ·exact ⟨Nat.le_of_succ_le (h1 p hp).1, List.mem_cons_of_mem _ (h1 p hp).2⟩
    ·rw [List.mem_singleton.mp hp]; exact ⟨Nat.le_refl _, List.mem_cons_self⟩
   ·intro x hx
    rcases List.mem_cons.mp hx with hx | hx
    ·cases hx; exact ⟨n, List.mem_append_right _ List.mem_cons_self⟩
    ·obtain ⟨c, hc⟩ := h2 x hx; exact ⟨c, List.mem_append_left _ hc⟩
   ·refine List.pairwise_append.mpr ⟨h3, List.pairwise_singleton _ _, fun a ha b hb e => ?_⟩
    rw [List.mem_singleton.mp hb] at e;have h5 := (h1 a ha).1;rw [show a.2 = n from e] at h5;exact absurd h5 (Nat.not_succ_le_self n)
  ·obtain ⟨own, e, h1, h2, h3⟩ := nR r n acc
   have hk' : (kind == NameKind.cell) = false := by cases kind <;> first | rfl | exact absurd rfl hk
   refine ⟨own, by rw [hk']; exact e, fun p hp => ⟨(h1 p hp).1, List.mem_cons_of_mem _ (h1 p hp).2⟩, fun x hx => ?_, h3⟩;rcases List.mem_cons.mp hx with hx | hx
   ·cases hx; exact absurd rfl hk
   ·exact h2 x hx
theorem nQ {scope : Scope} {env : Env} (h : ∀ x, (x, NameKind.free) ∈ scope.names -> ∃ c, env.cells.lookup x = some c) :
  ∃ cl, closureFor scope env = pure cl /\ (∀ p ∈ cl, env.cells.lookup p.1 = some p.2) /\ ∀ x, (x, NameKind.free) ∈ scope.names -> ∃ c, (x, c) ∈ cl := by
 have all : ∀ (names : List (Str × NameKind)) (acc : List (Str × Addr)), (∀ x, (x, NameKind.free) ∈ names -> ∃ c, env.cells.lookup x = some c) -> (∀ p ∈ acc, env.cells.lookup p.1 = some p.2) ->
   ∃ cl, (forIn (m := Sem) names acc fun (p : Str × NameKind) (cs : List (Str × Addr)) => if (p.2 == NameKind.free) = true then do let __do_lift <- cellOf env p.1; pure (ForInStep.yield ((p.1, __do_lift) :: cs)) else pure (ForInStep.yield cs)) = pure cl /\
    (∀ p ∈ cl, env.cells.lookup p.1 = some p.2) /\ (∀ p ∈ acc, p ∈ cl) /\ ∀ x, (x, NameKind.free) ∈ names -> ∃ c, (x, c) ∈ cl := by
  intro names
  induction names with
  | nil => intro acc _ ha; exact ⟨acc, by rw [List.forIn_nil], ha, fun _ h => h, (fun _ h => by cases h)⟩
  | cons p r ih =>
   obtain ⟨name, kind⟩ := p;intro acc hn ha;by_cases hk : kind = .free
   ·subst hk
    obtain ⟨c, hc⟩ := hn name List.mem_cons_self;obtain ⟨cl, e, h1, h2, h3⟩ := ih ((name, c) :: acc) (fun x hx => hn x (List.mem_cons_of_mem _ hx)) (fun p hp => by
     rcases List.mem_cons.mp hp with rfl | hp
     ·exact hc
     ·exact ha p hp)
    refine ⟨cl, ?_, h1, fun p hp => h2 p (List.mem_cons_of_mem _ hp), fun x hx => ?_⟩
    ·rw [List.forIn_cons]
     have ec : cellOf env name = pure c := by unfold cellOf; rw [hc]
     simp only [ec];exact e
    ·rcases List.mem_cons.mp hx with hx | hx
     ·cases hx; exact ⟨c, h2 _ List.mem_cons_self⟩
     ·exact h3 x hx
   ·obtain ⟨cl, e, h1, h2, h3⟩ := ih acc (fun x hx => hn x (List.mem_cons_of_mem _ hx)) ha
    have hk' : (kind == NameKind.free) = false := by cases kind <;> first | rfl | exact absurd rfl hk
    refine ⟨cl, ?_, h1, h2, fun x hx => ?_⟩
    ·rw [List.forIn_cons]; simp only [hk', Bool.false_eq_true, if_false]; exact e
    ·rcases List.mem_cons.mp hx with hx | hx
     ·cases hx; exact absurd rfl hk
     ·exact h3 x hx
 obtain ⟨cl, e, h1, _, h3⟩ := all scope.names [] h (fun _ h => by cases h);refine ⟨cl, ?_, h1, h3⟩;simp only [closureFor];rw [e];rfl
theorem wC {M : Model} {A : Around} {E : Value -> Shared -> Prop} {s : Shared} {scope : Scope} {env : Env} {cl : List (Str × Addr)} {Q : Env -> Shared -> Prop}
  (hQ : Q (newEnv scope s.heap.objs.size env.globals (cellsFrom (s.heap.objs.size + 1) scope.names cl) env.qual none .none (some env) builtinsNs) { s with heap := pushCells (s.heap.push { cls := .type "dict", data := .dict #[] }) scope.names }) :
  wpAny M A (newFunctionEnv scope env.globals cl [] env.qual none .none (some env)) Q E s := by
 simp only [newFunctionEnv, Option.isSome_some, if_true];refine wpAny_bind (wpAny_alloc ?_);refine wpAny_bind (wpAny_layCells _ (fun name kind cells => by cases hkc : kind == NameKind.cell <;> simp [hkc]) _ _ _ _ ?_);rw [show ({ s with heap := s.heap.push { cls := .type "dict", data := .dict #[] } } : Shared).heap.objs.size = s.heap.objs.size + 1 from Heap.size_push ..];refine wpAny_bind ?_;rw [List.forIn_nil];exact wpAny_pure (wpAny_pure hQ)
noncomputable def cT (X : Cx) (N' : List Str) (scope : Scope) (cl : List (Str × Addr)) (s : Shared) (H : Hp) (fp : List Addr) (ab : List (Addr × Obj)) : Cx :=
 { X with N := N', s₀ := s, H₀ := H, env := compEnvC scope (cellsFrom (s.heap.objs.size + 1) scope.names cl) s.heap.objs.size X.env, outer := X.stack, stack := X.stack, ex := fp,
          fn := fun x => scope.names.lookup x == some .cell, pn := X.pn ++ ab, xe := fun _ _ => False }
structure lx (X : Cx) (N' : List Str) (scope : Scope) : Prop where
 kind : scope.kind = .function
 nd : (scope.names.map (·.1)).Nodup
 len : X.N.length <= N'.length
 free : ∀ x, (x, NameKind.free) ∈ scope.names -> X.env.kindOf x = some .cell \/ X.env.kindOf x = some .free
 same : ∀ i x, i < X.N.length -> N'[i]? = some x -> (x, NameKind.free) ∈ scope.names -> X.N[i]? = some x
 hid : ∀ i x, i < X.N.length -> N'[i]? = some x -> (∃ k, (x, k) ∈ scope.names) -> (x, NameKind.free) ∈ scope.names
theorem eP {α : Type} : ∀ {l : List (Str × α)} {x : Str} {k : α}, (l.map (·.1)).Nodup -> (x, k) ∈ l -> l.lookup x = some k
 | (y, j) :: r, x, k, nd, h => by
  rw [List.map_cons, List.nodup_cons] at nd;rcases List.mem_cons.mp h with h | h
  ·cases h; rw [List.lookup_cons]; simp
  ·have ne : x ≠ y := fun e => nd.1 (e ▸ List.mem_map_of_mem (f := (·.1)) h)
   rw [List.lookup_cons];have : (x == y) = false := by simpa using ne
   rw [this];exact eP nd.2 h
theorem ik {α : Type} : ∀ {l : List (Str × α)} {x : Str} {k : α}, (x, k) ∈ l -> ∃ k', l.lookup x = some k'
 | (y, j) :: r, x, k, h => by
  rw [List.lookup_cons];cases hb : x == y with
  | true => exact ⟨j, rfl⟩
  | false =>
   rcases List.mem_cons.mp h with h | h
   ·cases h; simp at hb
   ·exact ik h
theorem h9 {scope : Scope} {env : Env} {x : Str} {k : NameKind} (h : (relabel scope env).names.lookup x = some k) : (x, k) ∈ scope.names \/ ((x, NameKind.free) ∈ scope.names /\ k = .cell) := by
 have h1 := mem_of_lookup h;unfold relabel at h1;obtain ⟨⟨n, j⟩, hm, e⟩ := List.mem_map.mp h1;dsimp only at e;split at e
 ·rename_i hc
  cases e;refine .inr ⟨?_, rfl⟩;have : j = .free := by
   cases j <;> simp at hc <;> rfl
  subst this; exact hm
 ·cases e; exact .inl hm
theorem pY {α : Type} {a b : List (Str × α)} {x : Str} (h : ∀ p ∈ a, p.1 ≠ x) : (a ++ b).lookup x = b.lookup x := by
 induction a with
 | nil => rfl
 | cons p r ih =>
  obtain ⟨y, j⟩ := p;rw [List.cons_append, List.lookup_cons];have : (x == y) = false := by
   have := h (y, j) List.mem_cons_self
   simpa using fun e : x = y => this e.symm
  rw [this];exact ih fun p hp => h p (List.mem_cons_of_mem _ hp)
section
variable {X : Cx} {N' : List Str} {scope : Scope} {cl : List (Str × Addr)} {s : Shared} {H : Hp} {fp : List Addr} {ab : List (Addr × Obj)} {σ : St}
theorem w5 (T : lx X N' scope) (I : Inv X ab σ H s) (hcl : ∀ p ∈ cl, X.env.cells.lookup p.1 = some p.2) (hfr : ∀ x, (x, NameKind.free) ∈ scope.names -> ∃ c, (x, c) ∈ cl)
  (hf : ∀ b ∈ fp, jh X ab H b) (ho : ∀ b ∈ fp, ∃ o, s.heap.get? b = some o) :
  Inv (cT X N' scope cl s H fp ab) [] (σ ++ List.replicate (N'.length - X.N.length) none) H { s with heap := pushCells (s.heap.push { cls := .type "dict", data := .dict #[] }) scope.names } := by
 obtain ⟨own, eo, o1, o2, o3⟩ := nR scope.names (s.heap.objs.size + 1) cl;have keep : ∀ b o, s.heap.get? b = some o -> (pushCells (s.heap.push { cls := .type "dict", data := .dict #[] }) scope.names).get? b = some o := fun b o e => pushCells_keeps _ _ b o (Heap.get?_push_of_some _ e)
 have clt : ∀ x c, (x, c) ∈ cl -> c < s.heap.objs.size := fun x c h => by
  obtain ⟨v, z⟩ := I.cell x c (hcl _ h);exact z.lt
 -- what a cell of the block is
 have cases_ : ∀ x c, (own ++ cl).lookup x = some c -> (s.heap.objs.size + 1 <= c /\ (x, c) ∈ own) \/ X.env.cells.lookup x = some c := fun x c h => by
  rcases List.mem_append.mp (mem_of_lookup h) with h | h
  ·exact .inl ⟨(o1 _ h).1, h⟩
  ·exact .inr (hcl _ h)
 have hst : ∀ b ∈ fp, b ∉ jX X.stack := fun b hb z => by
  rcases List.mem_cons.mp (I.stkSub b z) with e | e
  ·exact (hf b hb).2.1 e
  ·exact (hf b hb).2.2.1 e
 have okc : CellsOk (pushCells (s.heap.push { cls := .type "dict", data := .dict #[] }) scope.names) (s.heap.objs.size + 1) (cellsFrom (s.heap.objs.size + 1) scope.names []) := by
  have q := cellsFrom_ok scope.names (s.heap.push { cls := .type "dict", data := .dict #[] }) (s.heap.objs.size + 1) [] ⟨(fun _ _ hm => by cases hm), List.Pairwise.nil⟩ (by rw [Heap.size_push]; exact Nat.le_refl _);rw [Heap.size_push] at q;exact q
 have eown : cellsFrom (s.heap.objs.size + 1) scope.names [] = own := by
  obtain ⟨own', e', _⟩ := nR scope.names (s.heap.objs.size + 1) [];have gen : ∀ (names : List (Str × NameKind)) (n : Nat) (acc : List (Str × Addr)), cellsFrom n names acc = cellsFrom n names [] ++ acc := by
   intro names
   induction names with
   | nil => intro n acc; rfl
   | cons p r ih =>
    obtain ⟨name, kind⟩ := p;intro n acc;unfold cellsFrom;split
    ·rw [ih (n + 1) ((name, n) :: acc), ih (n + 1) [(name, n)], List.append_assoc]; rfl
    ·exact ih n acc
  have := gen scope.names (s.heap.objs.size + 1) cl
  rw [eo] at this;exact (List.append_cancel_right this).symm
 have ok : (cT X N' scope cl s H fp ab).Ok := by
  refine ⟨I.ok.mod, T.kind, I.ok.glob, I.ok.blt, Nat.le_refl _, fun x y c h1 h2 => ?_, fun x h => ?_, fun x c h1 h2 => ?_, I.ok.hd, I.ok.frames, .inl rfl, fun b hb => ⟨?_, fun x c h => ?_⟩, I.bs, Nat.le_trans I.ok.bsz I.sz, fun b o e hb => ?_, hst, I.stack, I.stkFree⟩
  ·have h1 : (own ++ cl).lookup x = some c := eo ▸ h1
   have h2 : (own ++ cl).lookup y = some c := eo ▸ h2;rcases cases_ x c h1 with ⟨l1, m1⟩ | e1
   ·rcases cases_ y c h2 with ⟨l2, m2⟩ | e2
    ·exact name_of_addr o3 m1 m2
    ·obtain ⟨v, z⟩ := I.cell y c e2
     exact absurd (Nat.lt_of_lt_of_le z.lt (Nat.le_of_succ_le (by first | exact l2 | exact l1))) (Nat.lt_irrefl _)
   ·rcases cases_ y c h2 with ⟨l2, m2⟩ | e2
    ·obtain ⟨v, z⟩ := I.cell x c e1
     exact absurd (Nat.lt_of_lt_of_le z.lt (Nat.le_of_succ_le (by first | exact l2 | exact l1))) (Nat.lt_irrefl _)
    ·exact I.ok.inj x y c e1 e2
  ·show ∃ c, (cellsFrom (s.heap.objs.size + 1) scope.names cl).lookup x = some c
   rw [eo];have fromFree : (x, NameKind.free) ∈ scope.names -> ∃ c, (own ++ cl).lookup x = some c := fun hm => by
    obtain ⟨c, hc⟩ := hfr x hm;exact ik (List.mem_append_right own hc)
   have fromCell : (x, NameKind.cell) ∈ scope.names -> ∃ c, (own ++ cl).lookup x = some c := fun hm => by
    obtain ⟨c, hc⟩ := o2 x hm;exact ik (List.mem_append_left cl hc)
   rcases h with h | h
   ·rcases h9 h with h | ⟨h, _⟩
    ·exact fromCell h
    ·exact fromFree h
   ·rcases h9 h with h | ⟨h, e⟩
    ·exact fromFree h
    ·cases e
  ·have h2 : (own ++ cl).lookup x = some c := eo ▸ h2
   have hc : scope.names.lookup x = some .cell := by
    have : (scope.names.lookup x == some NameKind.cell) = true := h1;simpa using this
   rcases cases_ x c h2 with ⟨l1, m1⟩ | e1
   ·exact Nat.le_of_succ_le l1
   ·-- x is one of the block's own: its cell stands ahead
    obtain ⟨c', hc'⟩ := o2 x (mem_of_lookup hc);obtain ⟨c2, hc2⟩ := ik hc';have : (own ++ cl).lookup x = some c2 := by
     have gen : ∀ l : List (Str × Addr), l.lookup x = some c2 -> (l ++ cl).lookup x = some c2 := by
      intro l
      induction l with
      | nil => intro h; cases h
      | cons p r ih =>
       obtain ⟨y, j⟩ := p;intro h;rw [List.cons_append, List.lookup_cons];rw [List.lookup_cons] at h;cases hb : x == y with
       | true => rw [hb] at h; exact h
       | false => rw [hb] at h; exact ih h
     exact gen own hc2
    rw [this] at h2;cases h2;exact Nat.le_of_succ_le (o1 _ (mem_of_lookup hc2)).1
  ·obtain ⟨o, e⟩ := ho b hb
   exact Nat.ne_of_lt (Heap.lt_size e)
  ·have h : (own ++ cl).lookup x = some c := eo ▸ h
   obtain ⟨o, e⟩ := ho b hb;have hlt := Heap.lt_size e;rcases cases_ x c h with ⟨l1, m1⟩ | e1
   ·intro z
    rw [z] at l1;exact absurd (Nat.lt_of_lt_of_le hlt (Nat.le_of_succ_le l1)) (Nat.lt_irrefl _)
   ·exact (hf b hb).2.2.2.2.1 x c e1
  ·rcases (hf b hb).2.2.2.1 with z | z
   ·exact I.ok.noex b o e z
   ·exact absurd (Nat.lt_of_lt_of_le (Heap.lt_size e) (Nat.le_trans I.ok.bsz z)) (Nat.lt_irrefl _)
 refine ⟨ok, rfl, I.bare, Un.kept keep, ⟨fun _ => none, (Heap.Ns.new s.heap (.type "dict")).keeps (pushCells_keeps _ _), fun i x v e1 e2 e3 => ?_⟩, fun x c h => ?_, I.hok.fresh (Nat.le_refl _), fun x c h => ?_, fun p hp => ?_, I.hok.kept keep, ?_⟩
 ·-- a name of the code around
  have hlen := I.len;have hi : i < σ.length := by
   rcases Nat.lt_or_ge i σ.length with h | h
   ·exact h
   ·rw [List.getElem?_append_right h] at e2
    rw [List.getElem?_replicate] at e2;split at e2 <;> cases e2
  rw [List.getElem?_append_left hi] at e2;have hmem : ∃ k, (x, k) ∈ scope.names := by
   have : ∃ k, (relabel scope X.env).names.lookup x = some k := by
    rcases e3 with h | h | h <;> exact ⟨_, h⟩
   obtain ⟨k, h⟩ := this;rcases h9 h with h | ⟨h, _⟩ <;> exact ⟨_, h⟩
  have hfree := T.hid i x oM e1 hmem;have eX := T.same i x oM e1 hfree;have kX := T.free x hfree;obtain ⟨m, hn, hl⟩ := I.loc;obtain ⟨u, ru, lk⟩ := hl i x v eX e2 (by rcases kX with h | h; exact .inr (.inl h); exact .inr (.inr h));refine ⟨u, ru, .inr ⟨?_, ?_⟩⟩
  ·-- its kind in the block
   have : ∃ k, (relabel scope X.env).names.lookup x = some k := by
    rcases e3 with h | h | h <;> exact ⟨_, h⟩
   obtain ⟨k, h⟩ := this;rcases h9 h with h' | ⟨h', e⟩
   ·have e5 := eP T.nd h'
    have e6 := eP T.nd hfree;rw [e5] at e6;cases e6;exact .inr h
   ·subst e; exact .inl h
  ·rcases lk with ⟨k1, _⟩ | ⟨_, c, hc, z⟩
   ·rcases kX with h | h <;> rw [h] at k1 <;> cases k1
   ·refine ⟨c, ?_, z.keeps keep⟩
    show (cellsFrom (s.heap.objs.size + 1) scope.names cl).lookup x = some c;rw [eo, pY fun p hp e => ?_]
    ·obtain ⟨c', hc'⟩ := hfr x hfree
     obtain ⟨c2, hc2⟩ := ik hc'
     have := hcl _ (mem_of_lookup hc2)
     rw [hc] at this;cases this;exact hc2
    ·have e5 := eP T.nd (o1 p hp).2
     rw [e] at e5;have e6 := eP T.nd hfree;rw [e5] at e6;cases e6
 ·have h : (own ++ cl).lookup x = some c := eo ▸ h
  rcases cases_ x c h with ⟨l1, m1⟩ | e1
  ·exact ⟨none, (okc.empty x c (eown ▸ m1)).1⟩
  ·obtain ⟨v, z⟩ := I.cell x c e1
   exact ⟨v, z.keeps keep⟩
 ·have h : (own ++ cl).lookup x = some c := eo ▸ h
  rcases cases_ x c h with ⟨l1, m1⟩ | e1
  ·exact I.hok.fresh (Nat.le_of_succ_le l1)
  ·exact I.freeC x c e1
 ·rw [List.append_nil] at hp
  obtain ⟨e, n, ne, nf, d⟩ := I.pin p hp;refine ⟨keep _ _ e, n, Nat.ne_of_lt (Heap.lt_size e), fun z => ?_, d⟩;rcases List.mem_cons.mp (I.stkSub p.1 z) with z | z
  ·exact ne z
  ·exact nf z
 ·show (σ ++ List.replicate (N'.length - X.N.length) none).length = N'.length
  rw [List.length_append, List.length_replicate, I.len]
  have := T.len
  omega
theorem AN {σ1 : St} {H1 : Hp} {s1 : Shared} {h' : Heap} {pins1 : List (Addr × Obj)} (I : Inv X ab σ H s) (hf : ∀ b ∈ fp, jh X ab H b) (I1 : Inv (cT X N' scope cl s H fp ab) pins1 σ1 H1 s1) (hs : Heap.SameBut s.heap.objs.size s1.heap h') :
  Inv X ab σ H1 { s1 with heap := h' } := by
 have hC : ∀ b o, s.heap.get? b = some o -> b ≠ s.heap.objs.size := fun b o e => Nat.ne_of_lt (Heap.lt_size e)
 have u := I1.base;have u2 : Un (jX X.stack) fp H H1 s.heap h' := by
  refine ⟨fun b o e n hb hx => ?_, fun b o e n hb hx => ?_, u.free, fun b o e hx => ?_, u.tups, u.frzs, u.tbls⟩
  ·rw [hs.2 b (hC b o e)]; exact u.keep b o e n hb hx
  ·obtain ⟨sl, q⟩ := u.slot b o e n hb hx
   exact ⟨sl, by rw [hs.2 b (hC b o e)]; exact q⟩
  ·obtain ⟨o', q⟩ := u.there b o e hx
   exact ⟨o', by rw [hs.2 b (hC b o e)]; exact q⟩
 have hCf : H1 s.heap.objs.size = none := I1.free;refine I.call' (s' := { s1 with heap := h' }) I1.os u2 (fun b o e => ?_) I1.bare fun b hb => ⟨(hf b hb).2.2.2.1, (hf b hb).2.1, (hf b hb).2.2.2.2.1, (hf b hb).2.2.2.2.2⟩
 refine (I1.hok b o e).stay (fun c v hc q => (hs.2 c ?_).trans q) (fun _ q => q) fun _ _ q => q
 rintro rfl;rcases hc with z | z
 ·rw [<- z, hCf] at e; cases e
 ·rw [hCf] at z; cases z
noncomputable def tH (X : Cx) (ifs : List Expr) (t : TT) : Prop :=
 ∀ (ab : List (Addr × Obj)) (s : Shared) (σ : St) (H : Hp) (Q : Bool -> Hp -> Prop), Inv X ab σ H s -> t σ H Q ->
  wpAny (model X.prog X.w) X.A (forIn ifs true fun c r => if r = true then do let ok <- isTrue c X.env (eval c X.env); pure (ForInStep.yield ok) else pure (ForInStep.yield r)) (TP X ab σ Q) X.xe s
theorem yD : tH X [] (fun _ H Q => Q true H) := fun ab s σ H Q I h => wpAny_tests_nil ⟨H, I, h⟩
theorem yC {c : Expr} {t : TT} (h : PT X c t) : tH X [c] t := fun ab s σ H Q I h' => wpAny_tests_one (h ab s σ H Q I h')
noncomputable def tLc (k : Nat) (wi : TI) (g : TG) (tt : TT) (te : TE) : TE := fun σ H Q => wi σ H fun J H1 => ∀ p, H1 p = none ->
 ∃ W : Nat -> Nat -> St -> Hp -> Prop, (∃ m, W 0 m (σ ++ List.replicate k none) (bq H1 p (.lst []))) /\ ∀ i m σ' H', W i m σ' H' ->
  (J.stop i H' /\ Q (.ref p) H') \/ (J.go i H' /\ ∀ x H2, J.yld i H' x H2 -> g x σ' H2 fun σ2 H3 => tt σ2 H3 fun ok H4 => if ok = true then
   te σ2 H4 fun y H5 => ∃ ys, H5 p = some (.lst ys) /\ ys.length < sizeLine /\ ∃ m', m' < m /\ W (i + 1) m' σ2 (bq H5 p (.lst (ys ++ [y])))
   else ∃ m', m' < m /\ W (i + 1) m' σ2 H4)
theorem rh {prog : Program} {w : World} {A : Around} {R : Result -> Shared -> Prop} {s : Shared} {elt target iter : Expr} {ifs : List Expr} {scope : Scope} {pos : Pos} {it acc : Value} {env : Env} (I : Nat -> Shared -> Prop)
  (turn : ∀ n s, I n s -> wpAny (model prog w) A (pyNext it) (fun r s₁ => match r with
   | none => R (.ok .next) s₁
   | some v => wpAny (model prog w) A (letOwnedTupleGo target it v) (fun _ s₁' => wpAny (model prog w) A (assign target env v) (fun _ s₂ =>
     wpAny (model prog w) A (forIn ifs true fun c r => if r = true then do let ok <- isTrue c env (eval c env); pure (ForInStep.yield ok) else pure (ForInStep.yield r)) (fun ok s₃ =>
      if ok = true then wpAny (model prog w) A (eval elt env) (fun x s₄ =>
       wpAny (model prog w) A (call (.builtin "list.append") [acc, x]) (fun _ s₅ => ∃ m, m < n /\ I m s₅) (fun _ _ => False) s₄) (fun _ _ => False) s₃
      else ∃ m, m < n /\ I m s₃) (fun _ _ => False) s₂) (fun _ _ => False) s₁') (fun _ _ => False) s₁) (fun _ _ => False) s)
  (n : Nat) (h : I n s) : codeAny (model prog w) A (.compLoop (.ListComp elt [⟨target, iter, ifs, 0⟩] scope pos) 0 it acc env) R s := by
 refine codeAny_loop rfl I (fun n s hI => ?_) n h;show wpAny _ A ((compTurn (.ListComp elt [⟨target, iter, ifs, 0⟩] scope pos) 0 it acc env).onRaise (fun x => do noteFrame x env; theTreesLotGoes x)) _ _ s;refine wpAny_noted ?_;rw [compTurn_list];refine wpAny_bind (wpAny_standAt (wpAny_bind (wpAny_mono (turn n s hI) (fun r s₁ h₁ => ?_) fun _ _ h' => h'.elim)));cases r with
 | none => exact wpAny_pure h₁
 | some v =>
  refine wpAny_bind (wpAny_mono h₁ (fun _ s₁' h₁' => ?_) fun _ _ h' => h'.elim);refine wpAny_bind (wpAny_mono h₁' (fun _ s₂ h₂ => wpAny_bind (wpAny_mono h₂ (fun ok s₃ h₃ => ?_) fun _ _ h' => h'.elim)) fun _ _ h' => h'.elim);cases ok with
  | false => exact wpAny_pure ⟨rfl, h₃⟩
  | true =>
   exact wpAny_bind (wpAny_bind (wpAny_mono h₃ (fun x s₄ h₄ => wpAny_bind (wpAny_mono h₄ (fun _ s₅ h₅ => wpAny_pure (wpAny_pure ⟨rfl, h₅⟩)) fun _ _ h' => h'.elim)) fun _ _ h' => h'.elim))
theorem qL {elt iter tg : Expr} {ifs : List Expr} {pos : Pos} {g : TG} {tt : TT} {te : TE} {J : It} {it : Addr} {tn : Nat -> Heap -> Prop} {Q : VK} {E : Value -> Shared -> Prop} {RR : Value -> Addr -> Result -> Shared -> Prop}
  (hc : X.calm = true) (T : lx X N' scope) (hcl : ∀ p ∈ cl, X.env.cells.lookup p.1 = some p.2) (hfr : ∀ x, (x, NameKind.free) ∈ scope.names -> ∃ c, (x, c) ∈ cl)
  (hg : ∀ cl s H fp ab, PG (cT X N' scope cl s H fp ab) tg g) (ht : ∀ cl s H fp ab, tH (cT X N' scope cl s H fp ab) ifs tt) (he : ∀ cl s H fp ab, PE (cT X N' scope cl s H fp ab) elt te)
  (I : Inv X ab σ H s) (Tn : uz X.prog X.w X.K tg J fp it tn) (st0 : tn 0 s.heap) (hf : ∀ b ∈ fp, jh X ab H b)
  (h : ∀ p, H p = none -> ∃ W : Nat -> Nat -> St -> Hp -> Prop, (∃ m, W 0 m (σ ++ List.replicate (N'.length - X.N.length) none) (bq H p (.lst []))) /\ ∀ i m σ' H', W i m σ' H' ->
   (J.stop i H' /\ Q (.ref p) H') \/ (J.go i H' /\ ∀ x H2, J.yld i H' x H2 -> g x σ' H2 fun σ2 H3 => tt σ2 H3 fun ok H4 => if ok = true then
    te σ2 H4 fun y H5 => ∃ ys, H5 p = some (.lst ys) /\ ys.length < sizeLine /\ ∃ m', m' < m /\ W (i + 1) m' σ2 (bq H5 p (.lst (ys ++ [y])))
    else ∃ m', m' < m /\ W (i + 1) m' σ2 H4))
  (hRR : ∀ p C s1 H1, Inv X ab σ H1 s1 -> Q (.ref p) H1 -> (∃ m, s1.heap.Ns C m) -> H1 C = none -> s.heap.objs.size <= C -> RR (.ref p) C (.ok .next) s1) :
  wpAny (model X.prog X.w) X.A (newList []) (fun acc s₃ => wpAny (model X.prog X.w) X.A (newFunctionEnv scope X.env.globals cl [] X.env.qual none .none (some X.env)) (fun cenv s₄ =>
   codeAny (model X.prog X.w) X.A (.compStart (.ListComp elt [⟨tg, iter, ifs, 0⟩] scope pos) 0 (.ref it) acc { cenv with scope := relabel scope X.env }) (RR acc cenv.locals) s₄) E s₃) E s := by
 refine wpAny_newObj_type (wC ?_);have hp : H s.heap.objs.size = none := I.fresh;obtain ⟨W, ⟨m0, w0⟩, turn⟩ := h _ hp;have I2 : Inv X ab σ (bq H s.heap.objs.size (.lst [])) { s with heap := s.heap.push { cls := .type "list", data := .seq ([] : List Value).toArray } } := Inv.lnew (t' := s.toks) (its := []) (ys := []) I .nil (Nat.zero_le _);have hf2 : ∀ b ∈ fp, jh X ab (bq H s.heap.objs.size (.lst [])) b := fun b hb => by
  obtain ⟨o, e, _⟩ := Tn.obj _ _ st0 b hb;exact ⟨by rw [bL (Nat.ne_of_lt (Heap.lt_size e))]; exact (hf b hb).1, (hf b hb).2⟩
 have ho2 : ∀ b ∈ fp, ∃ o, (s.heap.push { cls := .type "list", data := .seq ([] : List Value).toArray } : Heap).get? b = some o := fun b hb => by
  obtain ⟨o, e, _⟩ := Tn.obj _ _ st0 b hb;exact ⟨o, Heap.get?_push_of_some _ e⟩
 have I3 := w5 T I2 hcl hfr hf2 ho2;have st3 : tn 0 (pushCells ((s.heap.push { cls := .type "list", data := .seq ([] : List Value).toArray }).push { cls := .type "dict", data := .dict #[] }) scope.names) :=
  Tn.keep _ _ _ st0 fun b hb o e => pushCells_keeps _ _ b o (Heap.get?_push_of_some _ (Heap.get?_push_of_some _ e))
 generalize hs2 : ({ s with heap := s.heap.push { cls := .type "list", data := .seq ([] : List Value).toArray } } : Shared) = s2 at I2 I3;have hC : s.heap.objs.size <= s2.heap.objs.size := by rw [<- hs2]; exact Nat.le_of_lt (by show _ < (s.heap.push _).objs.size; rw [Heap.size_push]; exact Nat.lt_succ_self _)
 have stat : ∀ {H' : Hp}, (∀ b ∈ fp, H' b = none) -> ∀ b ∈ fp, jh (cT X N' scope cl s2 (bq H s.heap.objs.size (.lst [])) fp ab) [] H' b := fun {H'} hn b hb => by
  refine ⟨hn b hb, (I3.ok.exf b hb).1, I3.ok.exfs b hb, .inl hb, (I3.ok.exf b hb).2, fun p hp => ?_⟩;rw [List.append_nil] at hp;exact (hf b hb).2.2.2.2.2 p hp
 have loop : ∀ s4, s4 = ({ s2 with heap := pushCells (s2.heap.push { cls := .type "dict", data := .dict #[] }) scope.names } : Shared) ->
   codeAny (model X.prog X.w) X.A (.compLoop (.ListComp elt [⟨tg, iter, ifs, 0⟩] scope pos) 0 (.ref it) (.ref s.heap.objs.size) (cT X N' scope cl s2 (bq H s.heap.objs.size (.lst [])) fp ab).env) (RR (.ref s.heap.objs.size) s2.heap.objs.size) s4 := by
  rintro s4 rfl;refine rh (fun n s' => ∃ i σ' H', Inv (cT X N' scope cl s2 (bq H s.heap.objs.size (.lst [])) fp ab) [] σ' H' s' /\ tn i s'.heap /\ (∀ b ∈ fp, H' b = none) /\ W i n σ' H') ?_ m0
   ⟨0, _, _, I3, by subst hs2; exact st3, fun b hb => (hf2 b hb).1, w0⟩
  rintro n s3 ⟨i, σ3, H3, I4, st4, fr4, w4⟩;rcases turn i n σ3 H3 w4 with ⟨stop, qn⟩ | ⟨go, step⟩
  ·refine bQ (Tn.done (cT X N' scope cl s2 (bq H s.heap.objs.size (.lst [])) fp ab) rfl rfl rfl hc i [] s3 σ3 H3 (fun _ _ => False) I4 (stat fr4) st4 stop) fun r s5 ⟨hr, I5⟩ => ?_
   subst hr;obtain ⟨m, hn, _⟩ := I5.loc;exact hRR _ _ s5 H3 (AN I2 hf2 I5 (Heap.SameBut.refl _ _)) qn ⟨m, hn⟩ I5.free hC
  ·refine bQ (Tn.item (cT X N' scope cl s2 (bq H s.heap.objs.size (.lst [])) fp ab) rfl rfl rfl hc i [] s3 σ3 H3 (fun _ _ => False) I4 (stat fr4) st4 go) fun r s5 ⟨u, hr, h5⟩ => ?_
   subst hr;refine bQ h5 fun _ s6 ⟨x, H6, I6, r6, y6, st6, fr6⟩ => ?_
   have I6' := I6.pinned (stat fr6) (Tn.obj _ _ st6);have again : ∀ {σ7 : St} {H7 : Hp} {s7 : Shared} {m' : Nat}, Inv (cT X N' scope cl s2 (bq H s.heap.objs.size (.lst [])) fp ab) ([] ++ kW fp s6.heap) σ7 H7 s7 -> m' < n -> W (i + 1) m' σ7 H7 ->
     ∃ m, m < n /\ ∃ i σ' H', Inv (cT X N' scope cl s2 (bq H s.heap.objs.size (.lst [])) fp ab) [] σ' H' s7 /\ tn i s7.heap /\ (∀ b ∈ fp, H' b = none) /\ W i m σ' H' := fun {σ7 H7 s7 m'} I7 hm w7 => by
    refine ⟨m', hm, i + 1, σ7, H7, I7.unpinned, Tn.keep _ _ _ st6 fun b hb o e => (I7.pin (b, o) (List.mem_append_right _ (List.mem_append_right _ (iI hb e)))).1, fun b hb => ?_, w7⟩;obtain ⟨o, e, d⟩ := Tn.obj _ _ st6 b hb;exact (I7.pin (b, o) (List.mem_append_right _ (List.mem_append_right _ (iI hb e)))).2.1
   refine bQ (hg _ _ _ _ _ _ s6 σ3 H6 x u _ I6' r6 (step x H6 y6)) fun _ s7 ⟨σ7, H7, I7, q7⟩ => ?_
   refine bQ (ht _ _ _ _ _ _ s7 σ7 H7 _ I7 q7) fun ok s8 ⟨H8, I8, q8⟩ => ?_
   cases ok with
   | false =>
    simp only [Bool.false_eq_true, if_false] at q8 ⊢;obtain ⟨m', hm, w8⟩ := q8;exact again I8 hm w8
   | true =>
    simp only [if_true] at q8 ⊢;refine bQ (he _ _ _ _ _ _ s8 σ7 H8 _ I8 q8) fun y s9 ⟨yv, H9, I9, r9, ys, e9, l9, m', hm, w9⟩ => ?_
    refine bQ (px _ s9 σ7 H9 (.ref s.heap.objs.size) [yv] (.ref s.heap.objs.size) [y] (fun _ H' => H' = bq H9 s.heap.objs.size (.lst (ys ++ [yv]))) I9 rfl (.cons r9 .nil) ⟨_, ys, yv, rfl, rfl, e9, l9, rfl⟩) fun _ s10 ⟨_, H10, I10, _, e10⟩ => ?_
    subst e10;exact again I10 hm w9
 have st5 : tn 0 (pushCells (s2.heap.push { cls := .type "dict", data := .dict #[] }) scope.names) := by subst hs2; exact st3
 have fin := codeAny_compStart_list (loop _ rfl) (Tn.self X.A 0 _ _ (notedBy (model X.prog X.w) X.A (cT X N' scope cl s2 (bq H s.heap.objs.size (.lst [])) fp ab).env fun x s' => RR (.ref s.heap.objs.size) s2.heap.objs.size (.error x) s') st5 (loop _ rfl));subst hs2;exact fin
end
section
variable {X : Cx} {N' : List Str} {scope : Scope} {ab : List (Addr × Obj)} {σ : St} {elt iter tg : Expr} {ifs : List Expr} {pos : Pos} {wi : TI} {g : TG} {tt : TT} {te : TE}
theorem qK (T : lx X N' scope) : ∀ x ∈ scope.names, x.2 = .local -> scope.names.lookup x.1 = some .local := fun x hx e => by
 obtain ⟨n, k⟩ := x;cases e;exact eP T.nd hx
theorem Br (hc : X.calm = true) (T : lx X N' scope) (hi : PI X tg iter wi) (hg : ∀ cl s H fp ab, PG (cT X N' scope cl s H fp ab) tg g) (ht : ∀ cl s H fp ab, tH (cT X N' scope cl s H fp ab) ifs tt)
  (he : ∀ cl s H fp ab, PE (cT X N' scope cl s H fp ab) elt te) (hs : autoParam (∀ x, foldedSetIterable iter X.env x = pure x) kJ._auto_1) :
  PE X (.ListComp elt [⟨tg, iter, ifs, 0⟩] scope pos) (tLc (N'.length - X.N.length) wi g tt te) := by
 intro ab s σ H Q I h;obtain ⟨cl, hclos, hcl, hfr⟩ := nQ (scope := scope) (env := X.env) fun x hx => I.ok.has x (T.free x hx)
 rw [eval_ListComp];refine wpAny_comprehension_free (use := none) rfl hs hclos T.kind (qK T) (wpAny_mono (hi ab s σ H _ I h) (fun xv s1 h1 => wpAny_mono h1 (fun itv s2 h2 => ?_) fun _ _ e => e) fun _ _ e => e);obtain ⟨it, fp, tn, J, H2, rfl, I2, Tn, st2, f2, R⟩ := h2;refine qL (Q := Q) (RR := fun acc C => compPost (model X.prog X.w) X.A X.xe none (EP X ab σ Q) acc C) hc T hcl hfr hg ht he I2 Tn st2 f2 R ?_;rintro p C s3 H3 I3 q ⟨m, hn⟩ hC hle;refine ⟨m, hn, fun h' hs' => ⟨.ref p, H3, ?_, rfl, q⟩⟩;refine I3.turned (t' := s3.toks) (it := C) (fun b o hb e => (hs'.2 b hb).trans e) hC ?_ (.inr (Nat.le_trans I2.sz hle)) (fun x c e => ?_) fun p hp => ?_
 ·exact Ne.symm (Nat.ne_of_lt (Nat.lt_of_lt_of_le I2.lt hle))
 ·obtain ⟨v, z⟩ := I2.cell x c e
  exact Nat.ne_of_lt (Nat.lt_of_lt_of_le z.lt hle)
 ·exact Nat.ne_of_lt (Nat.lt_of_lt_of_le (Heap.lt_size (I2.pin p hp).1) hle)
theorem u5 {i : Nat} {y : Str} {py spos : Pos} (hN : X.N.Nodup) (hiN : X.N[i]? = some y) (hx : nX X.env.scope y) (hsw : swapsWith (.ListComp elt [⟨tg, iter, ifs, 0⟩] scope pos) (some (.Name y py)) spos.line X.env = pure true)
  (hc : X.calm = true) (T : lx X N' scope) (hi : PI X tg iter wi) (hg : ∀ cl s H fp ab, PG (cT X N' scope cl s H fp ab) tg g) (ht : ∀ cl s H fp ab, tH (cT X N' scope cl s H fp ab) ifs tt)
  (he : ∀ cl s H fp ab, PE (cT X N' scope cl s H fp ab) elt te) (hs : autoParam (∀ x, foldedSetIterable iter X.env x = pure x) kJ._auto_1) (hf : autoParam (X.fn y = true \/ X.env.scope.names.lookup y = some .local) n0._auto_1) :
  PS X (.Assign [.Name y py] (.ListComp elt [⟨tg, iter, ifs, 0⟩] scope pos) spos) (wa (tLc (N'.length - X.N.length) wi g tt te) (nM i)) := by
 intro ab s σ H D I h;obtain ⟨cl, hclos, hcl, hfr⟩ := nQ (scope := scope) (env := X.env) fun x hx => I.ok.has x (T.free x hx)
 rw [exec_Assign_Name_used _ _ _ _ hsw];refine wpAny_bind (wpAny_standAt (wpAny_bind ?_));show wpAny _ X.A (do let _ <- comprehension (.ListComp elt [⟨tg, iter, ifs, 0⟩] scope pos) scope X.env _ (newList []) false (eval iter X.env) (some (assign (.Name y py) X.env))) _ _ s;refine wpAny_bind (wpAny_mono (wpAny_comprehension_free (use := some (assign (.Name y py) X.env)) (Q := fun _ s' => SP X ab D .next s') rfl hs hclos T.kind (qK T)
  (wpAny_mono (hi ab s σ H _ I h) (fun xv s1 h1 => wpAny_mono h1 (fun itv s2 h2 => ?_) fun _ _ e => e) fun _ _ e => e)) (fun _ s' hq => wpAny_pure (wpAny_pure hq)) fun _ _ e => e)
 obtain ⟨it, fp, tn, J, H2, rfl, I2, Tn, st2, f2, R⟩ := h2;refine qL (Q := fun x H1 => nM i x σ H1 D.nx) (RR := fun acc C => compPost (model X.prog X.w) X.A X.xe (some (assign (.Name y py) X.env)) (fun _ s' => SP X ab D .next s') acc C) hc T hcl hfr hg ht he I2 Tn st2 f2 R ?_;rintro p C s3 H3 I3 q ⟨m, hn⟩ hC hle;have hCL : C ≠ X.env.locals := Ne.symm (Nat.ne_of_lt (Nat.lt_of_lt_of_le I2.lt hle));have hCc : ∀ x c, X.env.cells.lookup x = some c -> c ≠ C := fun x c e => by
  obtain ⟨v, z⟩ := I2.cell x c e;exact Nat.ne_of_lt (Nat.lt_of_lt_of_le z.lt hle)
 show wpAny _ X.A (assign (.Name y py) X.env (.ref p)) _ _ _;refine wpAny_assign_Name (pf (v := .ref p) I3 hN hiN hx rfl (fun s4 I4 ⟨a, sb, ha⟩ => ?_) hf);have hne : C ≠ a := by
  rcases ha with e | e
  ·rw [e]; exact hCL
  ·exact (hCc _ _ e).symm
 refine ⟨m, hn.sameBut sb hne, fun h' hs' => ⟨_, H3, ?_, q⟩⟩;refine I4.turned (t' := s4.toks) (it := C) (fun b o hb e => (hs'.2 b hb).trans e) hC hCL (.inr (Nat.le_trans I2.sz hle)) hCc fun p hp => ?_
 exact Nat.ne_of_lt (Nat.lt_of_lt_of_le (Heap.lt_size (I2.pin p hp).1) hle)
theorem rZ {t t' : TI} (h : PI X tg iter t) (i : ∀ σ H R, t' σ H R -> t σ H R) : PI X tg iter t' := fun ab s σ H R I h' => h ab s σ H R I (i σ H R h')
end
end L2
namespace DD
open PySem PySem.Spec PyProof.Rows L2
structure tM (K : PySem.W.Frag) (J : It) (xs : List D) (F : Addr -> Prop) (H : Hp) : Prop where
 item : ∀ i d F1 H1, Ext F H F1 H1 -> (∀ a, F1 a -> ∃ o, H1 a = some o) -> xs[i]? = some d -> J.go i H1 /\ ∀ x H2, J.yld i H1 x H2 -> ∃ F2, Grow F1 H1 F2 H2 /\ Ow K F2 H2 d x []
 done : ∀ F1 H1, Ext F H F1 H1 -> J.stop xs.length H1
noncomputable abbrev DI := aZ -> Option (List D × aZ)
noncomputable def CJ (K : PySem.W.Frag) (c : DI) : TI := fun σ H R => ∃ F Ro σD xs σD', Rel K F H σD σ Ro /\ c σD = some (xs, σD') /\ ∀ F' H' J, Ext F H F' H' -> Rel K F' H' σD' σ Ro -> tM K J xs F' H' -> R J H'
noncomputable def QI (X : Cx) (tg iter : Expr) (c : DI) : Prop := PI X tg iter (CJ X.K c)
noncomputable def fv (c : DE) : DI := fun σ => (c σ).bind fun p => match p.1 with | .lst _ xs => some (D.fzL xs, p.2) | _ => none
noncomputable def im (c : DA) : DI := fun σ => (c σ).bind fun p => match p.1 with | [.int j] => if qq j = true then some (iX 0 j, p.2) else none | _ => none
noncomputable def qW (c : DA) : DI := fun σ => (c σ).bind fun p => match p.1 with | [.int i, .int j] => if (qq i && qq j) = true then some (iX i j, p.2) else none | _ => none
section
variable {X : Cx} {tg e a b : Expr} {c : DE} {ca : DA} {p1 pos1 : Pos}
theorem pE {K : PySem.W.Frag} {F : Addr -> Prop} {H : Hp} {lo hi : Int} : tM K (tL lo (hi - lo).toNat) (iX lo hi) F H where
 item := fun i d F1 H1 _ _ e => by
  have hl : (iX lo hi).length = (hi - lo).toNat := by simp [iX]
  have hi' : i < (hi - lo).toNat := by rw [<- hl]; exact (List.getElem?_eq_some_iff.mp e).1
  have ed : d = .int (lo + i) := by
   unfold iX at e;rw [List.getElem?_map, List.getElem?_range hi'] at e;exact (Option.some.inj e).symm
  subst ed;exact ⟨hi', fun x H2 hq0 => by obtain ⟨e1, e2⟩ := hq0; subst e1; subst e2; exact ⟨F1, Grow.refl, Ow.of_sc rfl⟩⟩
 done := fun F1 H1 _ => by show (hi - lo).toNat <= (iX lo hi).length; simp [iX]
theorem BY {α β : Type} {a : α} {vs : List β} (h : [a].length = vs.length) : ∃ v, vs = [v] := by
 cases vs with
 | nil => cases h
 | cons v vs => cases vs with
  | nil => exact ⟨v, rfl⟩
  | cons _ _ => simp at h
theorem CO {α β : Type} {a b : α} {vs : List β} (h : [a, b].length = vs.length) : ∃ v u, vs = [v, u] := by
 cases vs with
 | nil => cases h
 | cons v vs =>
  obtain ⟨u, rfl⟩ := BY (a := a) (vs := vs) (Nat.succ.inj h);exact ⟨v, u, rfl⟩
theorem fJ (hgl : Gl X "range") (hm : X.mg "range" = none) (ha : QA X [a] ca) (hs : autoParam (starEach [a] X.env = [(false, eval a X.env)]) bj._auto_1) : QI X tg (.Call (.Name "range" p1) [a] [] pos1) (im ca) :=
 rZ (va hgl hm ha hs) fun σ H R hq0 => by
  obtain ⟨F, Ro, σD, xs, σD', r, ec, k⟩ := hq0;unfold im at ec;rcases h : ca σD with _ | ⟨ys, σ1⟩
  ·rw [h] at ec; cases ec
  ·rw [h] at ec; simp only [bind_some] at ec
   refine ⟨F, Ro, σD, ys, σ1, r, h, fun F1 H1 vs x1 hl r1 => ?_⟩;split at ec
   ·rename_i j
    split at ec
    ·rename_i hj
     cases ec;obtain ⟨v, rfl⟩ := BY hl;have hv : v = .int j := (r1.bor (d := .int j) (v := v) (by simp)).int;subst hv;unfold qq at hj;simp only [decide_eq_true_eq] at hj;have q : tM X.K (tL 0 (j - 0).toNat) (iX 0 j) F1 H1 := pE;rw [Int.sub_zero] at q;exact ⟨j, rfl, hj.1, hj.2, k F1 H1 _ x1 (r1.popN (S := [(D.int j, V.int j)])) q⟩
    ·cases ec
   ·cases ec
theorem t3 (hgl : Gl X "range") (hm : X.mg "range" = none) (ha : QA X [a, b] ca) (hs : autoParam (starEach [a, b] X.env = [(false, eval a X.env), (false, eval b X.env)]) bj._auto_1) (hs2 : autoParam (starEach [b] X.env = [(false, eval b X.env)]) bj._auto_1) : QI X tg (.Call (.Name "range" p1) [a, b] [] pos1) (qW ca) :=
 rZ (u9 hgl hm ha hs hs2) fun σ H R hq0 => by
  obtain ⟨F, Ro, σD, xs, σD', r, ec, k⟩ := hq0;unfold qW at ec;rcases h : ca σD with _ | ⟨ys, σ1⟩
  ·rw [h] at ec; cases ec
  ·rw [h] at ec; simp only [bind_some] at ec
   refine ⟨F, Ro, σD, ys, σ1, r, h, fun F1 H1 vs x1 hl r1 => ?_⟩;split at ec
   ·rename_i i j
    split at ec
    ·rename_i hj
     cases ec;obtain ⟨v, u, rfl⟩ := CO hl;have hv : v = .int i := (r1.bor (d := .int i) (v := v) (by simp)).int;have hu : u = .int j := (r1.bor (d := .int j) (v := u) (by simp)).int;subst hv; subst hu;unfold qq at hj;simp only [Bool.and_eq_true, decide_eq_true_eq] at hj;exact ⟨i, j, rfl, ⟨hj.1.1, hj.1.2, hj.2.1, hj.2.2⟩, k F1 H1 _ x1 (r1.popN (S := [(D.int i, V.int i), (D.int j, V.int j)])) pE⟩
    ·cases ec
   ·cases ec
theorem wN {K : PySem.W.Frag} {F : Addr -> Prop} {H : Hp} {xs : List D} {a : Addr} {vs : List V} (fl : FL K F H a vs) (ol : OwL K F H xs vs []) : tM K (AX K a) xs F H where
 item := fun i d F1 H1 x1 _ e => by
  obtain ⟨w, La, Lx, Lb, e1, eL, o, _⟩ := ol.kid e;have eLx : Lx = [] := (List.append_eq_nil_iff.mp (List.append_eq_nil_iff.mp eL.symm).1).2;subst eLx;refine ⟨⟨vs, w, (fl.ext x1).sq, e1⟩, fun x H2 ⟨e2, hx⟩ => ?_⟩;subst e2
  have := hx vs (fl.ext x1).sq
  rw [e1] at this;cases this;exact ⟨F1, Grow.refl, o.mono x1 (fun a ha => by cases ha)⟩
 done := fun F1 H1 x1 => ⟨vs, (fl.ext x1).sq, by rw [ol.length]; exact Nat.le_refl _⟩
theorem dY (he : QE X e c) : QI X tg e (fv c) := rZ (yE he) fun σ H R hq0 => by
 obtain ⟨F, Ro, σD, xs, σD', r, ec, k⟩ := hq0;unfold fv at ec;rcases h : c σD with _ | ⟨d, σ1⟩
 ·rw [h] at ec; cases ec
 ·rw [h] at ec; simp only [bind_some] at ec
  refine ⟨F, Ro, σD, d, σ1, r, h, fun F1 H1 v x1 r1 => ?_⟩;split at ec
  ·cases ec
   obtain ⟨F2, x2, r2, o2⟩ := r1.freeze;simp only [D.fz, Ow] at o2;obtain ⟨a, vs, rfl, fl, ol, _⟩ := o2;exact ⟨a, rfl, ⟨vs, fl.sq⟩, k F2 H1 _ (x1.trans x2) r2.pop (wN fl ol)⟩
  ·cases ec
end
noncomputable def cU (c : DI) (g : DG) (b : DS) : DS := fun σ => (c σ).bind fun p => eS g b p.1 p.2
section
variable {X : Cx} {e tg : Expr} {g : DG} {s : DS} {pos : Pos} {W W' : List Nat} {body : List Stmt}
theorem yY {F : Addr -> Prop} {H : Hp} {R : Ro} {σD : aZ} {σ : St} {xs : List D} {J : It} {En : lw} {o : Out} (r : Rel X.K F H σD σ R) (j : tM X.K J xs F H) (h : eS g s xs σD = some o)
  (k : ∀ F' H' σ', Ext F H F' H' -> Kp (W ++ W') σ σ' -> Th X.K En R F' H' σ' o) :
  ∃ W1 : Nat -> Nat -> St -> Hp -> Prop, (∃ m, W1 0 m σ H) /\ ∀ i m σ H, W1 i m σ H ->
   (J.stop i H /\ En.nx σ H) \/ (J.go i H /\ ∃ N : St -> Hp -> Prop, (∀ σ' H', N σ' H' -> ∃ m', m' < m /\ W1 (i + 1) m' σ' H') /\ ∀ x H', J.yld i H x H' -> rG X.K g W x σ H' fun σ2 H2 => rS X.K s W' { En with nx := N, ct := N, bk := En.nx } σ2 H2) := by
 refine ⟨fun i m σ1 H1 => m = xs.length - i /\ i <= xs.length /\ ∃ F1 σD1, Ext F H F1 H1 /\ Kp (W ++ W') σ σ1 /\ Rel X.K F1 H1 σD1 σ1 R /\ eS g s (xs.drop i) σD1 = some o, ⟨_, rfl, Nat.zero_le _, F, σD, Ext.refl, Kp.refl, r, by simpa using h⟩, ?_⟩;rintro i m σ1 H1 ⟨rfl, hle, F1, σD1, x1, kp1, r1, h1⟩;rcases Nat.lt_or_ge i xs.length with hi | hi
 ·right
  obtain ⟨go, yl⟩ := j.item i _ F1 H1 x1 r1.g.dom (List.getElem?_eq_getElem hi);refine ⟨go, fun σ' H' => ∃ F1 σD1, Ext F H F1 H' /\ Kp (W ++ W') σ σ' /\ Rel X.K F1 H' σD1 σ' R /\ eS g s (xs.drop (i + 1)) σD1 = some o, fun σ' H' q => ⟨xs.length - (i + 1), by omega, rfl, hi, q⟩, fun x H2 hy => ?_⟩;obtain ⟨F2, gr, ox⟩ := yl x H2 hy;rw [List.drop_eq_getElem_cons hi] at h1;exact xY (R := R) (R0 := R) (W := W) (W' := W') (fun _ _ _ _ _ _ h => h) ((r1.grow gr).push ox) (x1.trans gr.x) kp1 h1 k fun F3 H3 σD3 σ3 x3 kp3 r3 h3 => ⟨F3, σD3, (x1.trans gr.x).trans x3, kp3, r3, h3⟩
 ·left
  have ei : i = xs.length := Nat.le_antisymm hle hi;subst ei;rw [List.drop_length] at h1;simp only [eS] at h1;cases h1;exact ⟨j.done F1 H1 x1, k F1 H1 σ1 x1 kp1 r1⟩
theorem cF {c : DI} (hc : X.calm = true) (hi : QI X tg e c) (hg : QG X tg g W) (hb : mr X body s W') (hp : PassesOwn (model X.prog X.w) X.A X.env X.xe) (hf : autoParam (∀ x, foldedSetIterable e X.env x = pure x) kJ._auto_1) : QS X (.For tg e body [] pos) (cU c g s) (W ++ W') :=
 ir (zQ hp hc hi hg hb hf) fun En σ H hq0 => by
  obtain ⟨F, R, σD, o, r, ec, k⟩ := hq0;unfold cU at ec;rcases h : c σD with _ | ⟨xs, σ1⟩
  ·rw [h] at ec; cases ec
  ·rw [h] at ec; simp only [bind_some] at ec
   refine ⟨F, R, σD, xs, σ1, r, h, fun F1 H1 J x1 r1 j => ?_⟩;exact yY (X := X) (W := W) (W' := W') (g := g) (s := s) (En := En) r1 j ec fun F2 H2 σ2 x2 kp => k F2 H2 σ2 (x1.trans x2) kp
end
noncomputable def jH (g : DG) (t : DT) (c : DE) : List D -> aZ -> Option (List D × aZ)
 | [], σ => some ([], σ)
 | x :: xs, σ => (g x σ).bind fun σ1 => (t σ1).bind fun p => if p.1 = true then (c p.2).bind fun q => (jH g t c xs q.2).map fun r => (q.1 :: r.1, r.2) else jH g t c xs p.2
noncomputable def gZ (k : Nat) (i : DI) (g : DG) (t : DT) (c : DE) : DE := fun σ => (i σ).bind fun p => if p.1.length <= sizeLine then (jH g t c p.1 (p.2 ++ List.replicate k none)).map fun r => (.lst true r.1, r.2.take p.2.length) else none
noncomputable def lz : DT := fun σ => some (true, σ)
noncomputable def tE (X : Cx) (ifs : List Expr) (t : DT) : Prop := tH X ifs (rT X.K t)
section
variable {X : Cx} {e tg elt iter : Expr} {ifs : List Expr} {g : DG} {t : DT} {c : DE} {i : DI} {pos : Pos} {W : List Nat} {N' : List Str} {scope : Scope}
theorem lD : tE X [] lz := by
 intro ab s σ H Q I hh;obtain ⟨F, R, σD, b, σD', r, ec, k⟩ := hh;exact yD ab s σ H Q I (by cases ec; exact k F H Ext.refl r)
theorem jS (h : QT X e t) : tE X [e] t := yC h
theorem Rel.ext0 {K : PySem.W.Frag} {F : Addr -> Prop} {H : Hp} {σD : aZ} {σ : St} {R : Ro} {k : Nat} (r : Rel K F H σD σ R) : Rel K F H (σD ++ List.replicate k none) (σ ++ List.replicate k none) R := by
 have hm : ∀ {σD : aZ} {σ : St}, Mt σD σ -> Mt (σD ++ List.replicate k none) (σ ++ List.replicate k none) /\ sl (σD ++ List.replicate k none) (σ ++ List.replicate k none) = sl σD σ := by
  intro σD
  induction σD with
  | nil => intro σ h; cases σ with | nil => exact ⟨oA, mH⟩ | cons _ _ => cases h
  | cons o σD ih =>
   intro σ h;cases σ with
   | nil => cases o <;> cases h
   | cons v σ =>
    cases o with
    | none => exact ih (σ := σ) h
    | some d =>
     cases v with
     | none => cases h
     | some v =>
      have q := ih (σ := σ) h;exact ⟨q.1, congrArg ((d, v) :: ·) q.2⟩
 obtain ⟨h1, h2⟩ := hm r.mt;exact ⟨h1, by rw [h2]; exact r.g⟩
theorem Rel.cut {K : PySem.W.Frag} {F : Addr -> Prop} {H : Hp} {R : Ro} : ∀ {σD : aZ} {σ σ0 : St} {n : Nat}, σ0.length = n -> σ.take n = σ0 -> Rel K F H σD σ R -> Rel K F H (σD.take n) σ0 R := by
 intro σD σ σ0 n hn he r;subst he;have hm : ∀ {σD : aZ} {σ : St} (n : Nat), Mt σD σ -> Mt (σD.take n) (σ.take n) /\ ∃ S, (sl σD σ) = sl (σD.take n) (σ.take n) ++ S := by
  intro σD
  induction σD with
  | nil => intro σ n h; cases σ with | nil => simp [Mt, sl] | cons _ _ => cases h
  | cons o σD ih =>
   intro σ n h;cases σ with
   | nil => cases o <;> cases h
   | cons v σ =>
    cases n with
    | zero => exact ⟨trivial, _, rfl⟩
    | succ n =>
     cases o with
     | none => exact ih (σ := σ) n h
     | some d =>
      cases v with
      | none => cases h
      | some v =>
       obtain ⟨h1, S, h2⟩ := ih (σ := σ) n h;refine ⟨h1, S, ?_⟩;show (d, v) :: sl σD σ = (d, v) :: sl (σD.take n) (σ.take n) ++ S;rw [h2]; rfl
 obtain ⟨h1, S, h2⟩ := hm n r.mt;refine ⟨h1, ?_⟩;have g := r.g;rw [h2] at g;have g2 : G K F H (S ++ (sl (σD.take n) (σ.take n) ++ R)) := g.perm (by rw [List.append_assoc]; exact List.perm_append_comm_assoc _ _ _);exact g2.popN
theorem xD {F : Addr -> Prop} {H : Hp} {R : Ro} {σD σD' : aZ} {σ : St} {xs ys : List D} {J : It} {k : Nat} {Q : VK} (r : Rel X.K F H σD σ R) (j : tM X.K J xs F H) (hz : xs.length <= sizeLine) (hw : ∀ i ∈ W, σ.length <= i)
  (h : jH g t c xs (σD ++ List.replicate k none) = some (ys, σD')) (kk : ∀ F' H' v, Ext F H F' H' -> Rel X.K F' H' (σD'.take σD.length) σ ((.lst true ys, v) :: R) -> Q v H') (p : Addr) (hp : H p = none) :
  ∃ W1 : Nat -> Nat -> St -> Hp -> Prop, (∃ m, W1 0 m (σ ++ List.replicate k none) (bq H p (.lst []))) /\ ∀ i m σ' H', W1 i m σ' H' ->
   (J.stop i H' /\ Q (.ref p) H') \/ (J.go i H' /\ ∀ x H2, J.yld i H' x H2 -> rG X.K g W x σ' H2 fun σ2 H3 => rT X.K t σ2 H3 fun ok H4 => if ok = true then
    rE X.K c σ2 H4 fun y H5 => ∃ ys, H5 p = some (.lst ys) /\ ys.length < sizeLine /\ ∃ m', m' < m /\ W1 (i + 1) m' σ2 (bq H5 p (.lst (ys ++ [y])))
    else ∃ m', m' < m /\ W1 (i + 1) m' σ2 H4) := by
 have hlen := r.mt.length;obtain ⟨r0, x0⟩ := (r.ext0 (k := k)).alloc (o := .lst []) hp;have r1 : Rel X.K F (bq H p (.lst [])) (σD ++ List.replicate k none) (σ ++ List.replicate k none) ((.lst true [], .ref p) :: R) := r0.formL (xs := []) (vs := []) rfl cW;refine ⟨fun i m σ1 H1 => m = xs.length - i /\ i <= xs.length /\ ∃ F1 σD1 ds zs, Ext F H F1 H1 /\ Kp W (σ ++ List.replicate k none) σ1 /\ Rel X.K F1 H1 σD1 σ1 ((.lst true ds, .ref p) :: R) /\ ds.length <= i /\ jH g t c (xs.drop i) σD1 = some (zs, σD') /\ ds ++ zs = ys,
  ⟨_, rfl, Nat.zero_le _, F, _, [], ys, x0, Kp.refl, r1, Nat.zero_le _, by simpa using h, rfl⟩, ?_⟩
 rintro i m σ1 H1 ⟨rfl, hle, F1, σD1, ds, zs, x1, kp1, r2, hds, h1, hys⟩;rcases Nat.lt_or_ge i xs.length with hi | hi
 ·right
  obtain ⟨go, yl⟩ := j.item i _ F1 H1 x1 r2.g.dom (List.getElem?_eq_getElem hi);refine ⟨go, fun x H2 hy => ?_⟩;obtain ⟨F2, gr, ox⟩ := yl x H2 hy;rw [List.drop_eq_getElem_cons hi] at h1;simp only [jH] at h1;rcases e1 : g xs[i] σD1 with _ | σ3
  ·rw [e1] at h1; cases h1
  ·rw [e1] at h1; simp only [bind_some] at h1
   refine ⟨F2, _, σD1, xs[i], σ3, (r2.grow gr).push ox, e1, fun F3 H3 σ4 x3 kp3 r3 => ?_⟩;rcases e2 : t σ3 with _ | ⟨ok, σ5⟩
   ·rw [e2] at h1; cases h1
   ·rw [e2] at h1; simp only [bind_some] at h1
    refine ⟨F3, _, σ3, ok, σ5, r3, e2, fun F4 H4 x4 r4 => ?_⟩;have xx := ((x1.trans gr.x).trans x3).trans x4;have kp5 := kp1.trans kp3;cases ok with
    | false =>
     simp only [Bool.false_eq_true, if_false] at h1 ⊢;exact ⟨xs.length - (i + 1), by omega, rfl, hi, F4, σ5, ds, zs, xx, kp5, r4, by omega, h1, hys⟩
    | true =>
     simp only [if_true] at h1 ⊢;rcases e3 : c σ5 with _ | ⟨d, σ6⟩
     ·rw [e3] at h1; cases h1
     ·rw [e3] at h1; simp only [bind_some] at h1
      obtain ⟨⟨ws, σ7⟩, e4, e5⟩ := cH h1;cases e5;refine ⟨F4, _, σ5, d, σ6, r4, e3, fun F5 H5 v x5 r5 => ?_⟩;obtain ⟨a, vs, ea, he, hl, r6⟩ := (r5.perm (.swap _ _ _)).openL;cases ea;refine ⟨vs, he, by omega, xs.length - (i + 1), by omega, rfl, hi, ?_⟩;have r7 : Rel X.K F5 H5 σ6 σ4 ((.cell, .ref p) :: ((ds ++ [d]).zip (vs ++ [v]) ++ R)) := by
       refine r6.perm (.cons _ ?_);rw [List.zip_append hl];simp
      obtain ⟨r8, x8⟩ := r7.write (o := .lst (vs ++ [v]));exact ⟨F5, σ6, ds ++ [d], ws, (xx.trans x5).trans x8, kp5, r8.formL (by simp [hl]) cW, by simp; omega, e4, by rw [<- hys]; simp⟩
 ·left
  have ei : i = xs.length := Nat.le_antisymm hle hi;subst ei;rw [List.drop_length] at h1;simp only [jH] at h1;cases h1;rw [List.append_nil] at hys;subst hys;refine ⟨j.done F1 H1 x1, kk F1 H1 _ x1 ?_⟩;rw [hlen];refine r2.cut rfl ?_;apply List.ext_getElem?;intro n;rcases Nat.lt_or_ge n σ.length with hn | hn
  ·rw [List.getElem?_take_of_lt hn, kp1 n (fun z => absurd (hw n z) oM), List.getElem?_append_left hn]
  ·rw [List.getElem?_eq_none (by simp; omega), List.getElem?_eq_none hn]
theorem Bj (hc : X.calm = true) (T : lx X N' scope) (hi : QI X tg iter i) (hg : ∀ cl s H fp ab, QG (cT X N' scope cl s H fp ab) tg g W) (ht : ∀ cl s H fp ab, tE (cT X N' scope cl s H fp ab) ifs t)
  (he : ∀ cl s H fp ab, QE (cT X N' scope cl s H fp ab) elt c) (hw : ∀ i ∈ W, X.N.length <= i) (hs : autoParam (∀ x, foldedSetIterable iter X.env x = pure x) kJ._auto_1) :
  QE X (.ListComp elt [⟨tg, iter, ifs, 0⟩] scope pos) (gZ (N'.length - X.N.length) i g t c) := by
 rintro ab s σ H Q I ⟨F, R, σD, d, σD', r, ec, k⟩;have hlen : σ.length = X.N.length := I.len;refine Br (X := X) (N' := N') (g := rG X.K g W) (tt := rT X.K t) (te := rE X.K c) hc T hi hg ht he hs ab s σ H Q I ?_;unfold gZ at ec;rcases h : i σD with _ | ⟨xs, σ1⟩
 ·rw [h] at ec; cases ec
 ·rw [h] at ec; simp only [bind_some] at ec
  split at ec
  ·rename_i hz
   obtain ⟨⟨ys, σ2⟩, e1, e2⟩ := cH ec;cases e2;refine ⟨F, R, σD, xs, σ1, r, h, fun F1 H1 J x1 r1 j p hp => ?_⟩;exact xD (X := X) (W := W) r1 j hz (fun i hi => by rw [hlen]; exact hw i hi) e1 (fun F2 H2 v x2 r2 => k F2 H2 v (x1.trans x2) r2) p hp
  ·cases ec
theorem uT (ix : Nat) {y : Str} {py spos : Pos} (hN : X.N.Nodup) (hc : X.calm = true) (T : lx X N' scope) (hi : QI X tg iter i) (hg : ∀ cl s H fp ab, QG (cT X N' scope cl s H fp ab) tg g W) (ht : ∀ cl s H fp ab, tE (cT X N' scope cl s H fp ab) ifs t)
  (he : ∀ cl s H fp ab, QE (cT X N' scope cl s H fp ab) elt c) (hw : ∀ i ∈ W, X.N.length <= i) (hsw : swapsWith (.ListComp elt [⟨tg, iter, ifs, 0⟩] scope pos) (some (.Name y py)) spos.line X.env = pure true)
  (hiN : autoParam (X.N[ix]? = some y) bj._auto_1) (hx : autoParam (nX X.env.scope y) xV._auto_1) (hs : autoParam (∀ x, foldedSetIterable iter X.env x = pure x) kJ._auto_1) (hf : autoParam (X.fn y = true \/ X.env.scope.names.lookup y = some .local) n0._auto_1) :
  QS X (.Assign [.Name y py] (.ListComp elt [⟨tg, iter, ifs, 0⟩] scope pos) spos) (bC ix (gZ (N'.length - X.N.length) i g t c)) [ix] := by
 rintro ab s σ H En I ⟨F, R, σD, o, r, ec, k⟩;have hlen : σ.length = X.N.length := I.len;refine u5 (X := X) (N' := N') (g := rG X.K g W) (tt := rT X.K t) (te := rE X.K c) hN hiN hx hsw hc T hi hg ht he hs hf ab s σ H En I ?_;unfold bC at ec;rcases h0 : gZ (N'.length - X.N.length) i g t c σD with _ | ⟨d0, σ0⟩
 ·rw [h0] at ec; cases ec
 ·rw [h0] at ec; simp only [bind_some] at ec
  split at ec
  ·rename_i hl
   cases ec;unfold gZ at h0;rcases h : i σD with _ | ⟨xs, σ1⟩
   ·rw [h] at h0; cases h0
   ·rw [h] at h0; simp only [bind_some] at h0
    split at h0
    ·rename_i hz
     obtain ⟨⟨ys, σ2⟩, e1, e2⟩ := cH h0;cases e2;refine ⟨F, R, σD, xs, σ1, r, h, fun F1 H1 J x1 r1 j p hp => ?_⟩;exact xD (X := X) (W := W) (Q := fun x H1 => nM ix x σ H1 En.nx) r1 j hz (fun i hi => by rw [hlen]; exact hw i hi) e1 (fun F2 H2 v x2 r2 => k F2 H2 _ (x1.trans x2) Kp.set (r2.store (by rw [<- r2.mt.length]; exact hl))) p hp
    ·cases h0
  ·cases ec
end
mutual
noncomputable def D.py : D -> Option PyData
 | .non => some .none
 | .bl b => some (.bool b)
 | .int i => some (.int i)
 | .str x => some (.str x)
 | .lst _ xs => (D.pyL xs).map .list
 | .tup xs => (D.pyL xs).map .tuple
 | _ => none
noncomputable def D.pyL : List D -> Option (List PyData)
 | [] => some []
 | x :: xs => (D.py x).bind fun p => (D.pyL xs).map fun ps => p :: ps
end
section
variable {X : Cx} {ab : List (Addr × Obj)} {σ : St} {H : Hp} {s : Shared} {F : Addr -> Prop}
theorem qF (I : L2.Inv X ab σ H s) {a : Addr} {vs : List V} (h : fg X.K H a vs) : ∃ its o n, Vals vs its /\ s.heap.get? a = some o /\ o.cls = .type "list" /\ o.data = .seq its.toArray n := by
 obtain ⟨its, r, ⟨o, n, e, c, _, d⟩, _⟩ := I.list h;exact ⟨its, o, n, r, e, c, d⟩
theorem sJ (I : L2.Inv X ab σ H s) {a : Addr} {vs : List V} (h : mq X.K H a vs) : ∃ its o n, Vals vs its /\ s.heap.get? a = some o /\ o.cls = .type "tuple" /\ o.data = .seq its.toArray n := by
 obtain ⟨its, r, ⟨o, e, c, n, d⟩, _⟩ := I.tuple h;exact ⟨its, o, n, r, e, c, d⟩
mutual
theorem qk (I : L2.Inv X ab σ H s) : ∀ {d : D} {v : V} {L : List Addr} {p : PyData} {u : Value}, Ow X.K F H d v L -> d.py = some p -> RelV v u -> ∃ as, Reads s.heap u p as
 | .non, v, L, p, u, o, e, r => by simp only [D.py, Ow] at e o; cases e; obtain ⟨rfl, _⟩ := o; cases r; exact ⟨_, .none⟩
 | .bl b, v, L, p, u, o, e, r => by simp only [D.py, Ow] at e o; cases e; obtain ⟨rfl, _⟩ := o; cases r; exact ⟨_, .bool b⟩
 | .int i, v, L, p, u, o, e, r => by simp only [D.py, Ow] at e o; cases e; obtain ⟨rfl, _⟩ := o; obtain ⟨t, rfl⟩ := r; exact ⟨_, .int i t⟩
 | .str x, v, L, p, u, o, e, r => by simp only [D.py, Ow] at e o; cases e; obtain ⟨rfl, _⟩ := o; obtain ⟨t, rfl⟩ := r; exact ⟨_, .str x t⟩
 | .lst own xs, v, L, p, u, o, e, r => by
  simp only [D.py] at e;rcases h : D.pyL xs with _ | ps
  ·rw [h] at e; cases e
  ·rw [h] at e; cases e
   obtain ⟨a, vs, rfl, sq, L', ol⟩ := Bor.lst ⟨L, o⟩;cases r;obtain ⟨its, ob, n, rv, e1, e2, e3⟩ := qF I sq;obtain ⟨as, ra⟩ := kS I ol h rv;exact ⟨_, .list e1 e2 e3 ra⟩
 | .tup xs, v, L, p, u, o, e, r => by
  simp only [D.py] at e;rcases h : D.pyL xs with _ | ps
  ·rw [h] at e; cases e
  ·rw [h] at e; cases e
   obtain ⟨a, vs, rfl, sq, L', ol⟩ := Bor.tup ⟨L, o⟩;cases r;obtain ⟨its, ob, n, rv, e1, e2, e3⟩ := sJ I sq;obtain ⟨as, ra⟩ := kS I ol h rv;exact ⟨_, .tuple e1 e2 e3 ra⟩
 | .hole, _, _, _, _, _, e, _ => by simp only [D.py] at e; cases e
 | .cell, _, _, _, _, _, e, _ => by simp only [D.py] at e; cases e
 | .node _ _, _, _, _, _, _, e, _ => by simp only [D.py] at e; cases e
 | .pin _ _, _, _, _, _, _, e, _ => by simp only [D.py] at e; cases e
 | .ty _, _, _, _, _, _, e, _ => by simp only [D.py] at e; cases e
 | .cls _, _, _, _, _, _, e, _ => by simp only [D.py] at e; cases e
 | .obj _ _ _ _, _, _, _, _, _, e, _ => by simp only [D.py] at e; cases e
 | .dct _ _ _, _, _, _, _, _, e, _ => by simp only [D.py] at e; cases e
theorem kS (I : L2.Inv X ab σ H s) : ∀ {xs : List D} {vs : List V} {L : List Addr} {ps : List PyData} {us : List Value}, OwL X.K F H xs vs L -> D.pyL xs = some ps -> Vals vs us -> ∃ as, ReadsAll s.heap us ps as
 | [], vs, L, ps, us, o, e, r => by
  simp only [D.pyL, OwL] at e o;cases e;obtain ⟨rfl, _⟩ := o;cases r;exact ⟨_, .nil⟩
 | x :: xs, vs, L, ps, us, o, e, r => by
  simp only [D.pyL, OwL] at e o;obtain ⟨v, ws, L1, L2, rfl, o1, o2, _⟩ := o;rcases h1 : D.py x with _ | p
  ·rw [h1] at e; cases e
  ·rw [h1] at e; simp only [bind_some] at e
   rcases h2 : D.pyL xs with _ | qs
   ·rw [h2] at e; cases e
   ·rw [h2] at e; cases e
    cases r with
    | cons r1 r2 =>
     obtain ⟨as, ra⟩ := qk I o1 h1 r1;obtain ⟨bs, rb⟩ := kS I o2 h2 r2;exact ⟨_, .cons ra rb⟩
end
theorem Bor.reads (I : L2.Inv X ab σ H s) {d : D} {v : V} {p : PyData} {u : Value} (b : Bor X.K F H d v) (e : d.py = some p) (r : RelV v u) : ∃ as, Reads s.heap u p as := by
 obtain ⟨L, o⟩ := b;exact qk I o e r
end
noncomputable def kf (p q : PyData) : Bool := p.canLay0 && q.canLay0 && decide (min p.depth q.depth <= 50)
noncomputable def eG : D -> D -> Option D := fun x y => x.py.bind fun p => y.py.bind fun q => if kf p q = true then some (.bl (PyData.eqv p q)) else none
noncomputable def jy : D -> D -> Option D := fun x y => x.py.bind fun p => y.py.bind fun q => if kf p q = true then some (.bl (!PyData.eqv p q)) else none
section
variable {X : Cx}
theorem qZ {x y d : D} (h : eG x y = some d) : ∃ p q, x.py = some p /\ y.py = some q /\ p.canLay0 = true /\ q.canLay0 = true /\ min p.depth q.depth <= 50 /\ d = .bl (PyData.eqv p q) := by
 unfold eG at h;rcases h1 : x.py with _ | p
 ·rw [h1] at h; cases h
 ·rw [h1] at h; simp only [bind_some] at h
  rcases h2 : y.py with _ | q
  ·rw [h2] at h; cases h
  ·rw [h2] at h; simp only [bind_some] at h
   split at h
   ·rename_i hk
    cases h;simp only [kf, Bool.and_eq_true, decide_eq_true_eq] at hk;exact ⟨p, q, rfl, rfl, hk.1.1, hk.1.2, hk.2, rfl⟩
   ·cases h
theorem qX {x y d : D} (h : jy x y = some d) : ∃ p q, x.py = some p /\ y.py = some q /\ p.canLay0 = true /\ q.canLay0 = true /\ min p.depth q.depth <= 50 /\ d = .bl (!PyData.eqv p q) := by
 unfold jy at h;rcases h1 : x.py with _ | p
 ·rw [h1] at h; cases h
 ·rw [h1] at h; simp only [bind_some] at h
  rcases h2 : y.py with _ | q
  ·rw [h2] at h; cases h
  ·rw [h2] at h; simp only [bind_some] at h
   split at h
   ·rename_i hk
    cases h;simp only [kf, Bool.and_eq_true, decide_eq_true_eq] at hk;exact ⟨p, q, rfl, rfl, hk.1.1, hk.1.2, hk.2, rfl⟩
   ·cases h
theorem ee (hu : X.A.units + 64 < cLine) : dB X (compareOp .Eq) eG := by
 refine ⟨fun ab s σ H x y v u Q I rx ry pz => ?_, fun x y d h => ?_⟩
 ·obtain ⟨F, dx, dy, d, w, b1, b2, eg, hw, q⟩ := pz
  obtain ⟨p, r, e1, e2, c1, c2, hd, rfl⟩ := qZ eg;cases hw;obtain ⟨as, ra⟩ := b1.reads I e1 rx;obtain ⟨bs, rb⟩ := b2.reads I e2 ry;exact SeqAt.eqOverData _ _ _ _ _ _ _ _ _ _ _ _ ra rb c1 c2 oM ⟨.bl _, H, I, rfl, q⟩
 ·obtain ⟨p, r, _, _, _, _, _, rfl⟩ := qZ h
  exact ⟨_, rfl⟩
theorem kh (hu : X.A.units + 64 < cLine) : dB X (compareOp .NotEq) jy := by
 refine ⟨fun ab s σ H x y v u Q I rx ry pz => ?_, fun x y d h => ?_⟩
 ·obtain ⟨F, dx, dy, d, w, b1, b2, eg, hw, q⟩ := pz
  obtain ⟨p, r, e1, e2, c1, c2, hd, rfl⟩ := qX eg;cases hw;obtain ⟨as, ra⟩ := b1.reads I e1 rx;obtain ⟨bs, rb⟩ := b2.reads I e2 ry;exact SeqAt.neOverData _ _ _ _ _ _ _ _ _ _ _ _ ra rb c1 c2 oM ⟨.bl _, H, I, rfl, q⟩
 ·obtain ⟨p, r, _, _, _, _, _, rfl⟩ := qX h
  exact ⟨_, rfl⟩
end
noncomputable def BorL (K : PySem.W.Frag) (F : Addr -> Prop) (H : Hp) : List D -> List V -> Prop
 | [], [] => True
 | d :: ds, v :: vs => Bor K F H d v /\ BorL K F H ds vs
 | _, _ => False
structure ic (X : Cx) (f : Value) (g : List D -> Option D) : Prop where
 run : CallR X f (fun vs H Q => ∃ F ds d w, BorL X.K F H ds vs /\ g ds = some d /\ d.sc = some w /\ Q w H)
 sc : ∀ ds d, g ds = some d -> ∃ w, d.sc = some w
noncomputable def j0 : List DP -> aZ -> Option (List D)
 | [], _ => some []
 | p :: ps, σ => (p σ).bind fun d => (j0 ps σ).map fun ds => d :: ds
noncomputable def cE (g : List D -> Option D) (ps : List DP) : DP := fun σ => (j0 ps σ).bind g
noncomputable def BW (K : PySem.W.Frag) (ps : List DP) : TA := fun σ H Q => ∃ F R σD ds, Rel K F H σD σ R /\ j0 ps σD = some ds /\ ∀ F' H' vs, Grow F H F' H' -> BorL K F' H' ds vs -> Q vs H'
noncomputable def tF (X : Cx) (es : List Expr) (ps : List DP) : Prop := PA X es (BW X.K ps)
section
variable {X : Cx} {e : Expr} {es : List Expr} {p : DP} {ps : List DP} {x : Str} {p1 pos : Pos} {id T : String} {g : List D -> Option D} {ca : DA}
theorem bR : tF X [] [] := jg fZ fun σ H Q hq0 => by
 obtain ⟨F, R, σD, ds, r, ec, k⟩ := hq0;cases ec; exact k F H [] Grow.refl trivial
theorem bt (ha : QB X e p) (hr : tF X es ps) (hs : autoParam (starEach (e :: es) X.env = (false, eval e X.env) :: starEach es X.env) bj._auto_1) : tF X (e :: es) (p :: ps) := jg (eB ha hr hs) fun σ H Q hq0 => by
 obtain ⟨F, R, σD, ds, r, ec, k⟩ := hq0;simp only [j0] at ec;rcases h1 : p σD with _ | d
 ·rw [h1] at ec; cases ec
 ·rw [h1] at ec; simp only [bind_some] at ec
  rcases h2 : j0 ps σD with _ | ds2
  ·rw [h2] at ec; cases ec
  ·rw [h2] at ec; cases ec
   refine ⟨F, R, σD, d, r, h1, fun F1 H1 v g1 b1 => ?_⟩;exact ⟨F1, R, σD, ds2, r.grow g1, h2, fun F2 H2 vs g2 b2 => k F2 H2 (v :: vs) (g1.trans g2) ⟨b1.grow g2, b2⟩⟩
theorem qy {f : Value} (hc : ic X f g) {σ : St} {H : Hp} {Q : VK} (h : rB X.K (cE g ps) σ H Q) : zu (fun vs H Q => ∃ F ds d w, BorL X.K F H ds vs /\ g ds = some d /\ d.sc = some w /\ Q w H) (BW X.K ps) σ H Q := by
 obtain ⟨F, R, σD, d, r, ec, k⟩ := h;unfold cE at ec;rcases h1 : j0 ps σD with _ | ds
 ·rw [h1] at ec; cases ec
 ·rw [h1] at ec; simp only [bind_some] at ec
  obtain ⟨w, hw⟩ := hc.sc _ _ ec;exact ⟨F, R, σD, ds, r, h1, fun F1 H1 vs g1 b1 => ⟨F1, ds, d, w, b1, ec, hw, k F1 H1 w g1 ⟨[], Ow.of_sc hw⟩⟩⟩
theorem dh (hc : ic X (.builtin id) g) (hg : Gl X x) (hm : X.mg x = none) (hv : bootBuiltins x = some (.builtin id)) (ha : tF X (e :: es) ps) (hn : autoParam (x ≠ "__name__") cz._auto_1) (hdb : autoParam ((x == ("__debug__" : Str)) = false) cz._auto_1)
  (he : autoParam (starEach (e :: es) X.env = (false, eval e X.env) :: starEach es X.env) bj._auto_1) (hpl : autoParam ((backTo pos (starEach es X.env)).any (·.1) = false) bj._auto_1) : QB X (.Call (.Name x p1) (e :: es) [] pos) (cE g ps) :=
 bH (mM hc.run hg hm hv ha hn hdb he hpl) fun _ _ _ h => qy hc h
theorem Bk (hc : ic X (.type T) g) (hg : Gl X x) (hm : X.mg x = none) (hv : bootBuiltins x = some (.type T)) (ha : tF X (e :: es) ps) (hn : autoParam (x ≠ "__name__") cz._auto_1) (hdb : autoParam ((x == ("__debug__" : Str)) = false) cz._auto_1)
  (he : autoParam (starEach (e :: es) X.env = (false, eval e X.env) :: starEach es X.env) bj._auto_1) (hpl : autoParam ((backTo pos (starEach es X.env)).any (·.1) = false) bj._auto_1) : QB X (.Call (.Name x p1) (e :: es) [] pos) (cE g ps) :=
 bH (jm hc.run hg hm hv ha hn hdb he hpl) fun _ _ _ h => qy hc h
theorem uW {T : String} (hg : Gl X x) (hm : X.mg x = none) (hv : bootBuiltins x = some (.type T)) (hn : autoParam (x ≠ "__name__") cz._auto_1) (hd : autoParam ((x == ("__debug__" : Str)) = false) cz._auto_1) : QB X (.Name x pos) (pC (.ty T)) :=
 bH (yI (v := .ty T) hg hm hv rfl hn hd) fun σ H Q hq0 => by obtain ⟨F, R, σD, d, r, ec, k⟩ := hq0; cases ec; exact k F H _ Grow.refl ⟨[], Ow.of_sc rfl⟩
end
section
variable {X : Cx}
theorem gC {f : Value} {r r' : List V -> Hp -> VK -> Prop} (h : CallR X f r) (i : ∀ xs H Q, r' xs H Q -> r xs H Q) : CallR X f r' := fun ab s σ H xs us Q I rv h' => h ab s σ H xs us Q I rv (i xs H Q h')
theorem BorL.one {K : PySem.W.Frag} {F : Addr -> Prop} {H : Hp} {d : D} : ∀ {vs : List V}, BorL K F H [d] vs -> ∃ v, vs = [v] /\ Bor K F H d v
 | [v], h => ⟨v, rfl, h.1⟩
theorem BorL.two {K : PySem.W.Frag} {F : Addr -> Prop} {H : Hp} {d e : D} : ∀ {vs : List V}, BorL K F H [d, e] vs -> ∃ v w, vs = [v, w] /\ Bor K F H d v /\ Bor K F H e w := by
 intro vs h;cases vs with
 | nil => exact h.elim
 | cons v vs => cases vs with
  | nil => exact h.2.elim
  | cons w vs => cases vs with
   | nil => exact ⟨v, w, rfl, h.1, h.2.1⟩
   | cons _ _ => exact h.2.2.elim
noncomputable def iA : List D -> Option D
 | [.lst _ xs] => some (.int xs.length)
 | [.tup xs] => some (.int xs.length)
 | [.str z] => if z.length <= sizeLine then some (.int z.length) else none
 | _ => none
theorem jA : ic X (.builtin "len") iA := by
 refine ⟨gC (call_len_seq.or rk) fun vs H Q pz => ?_, fun ds d h => ?_⟩
 ·obtain ⟨F, ds, d, w, b, eg, hw, q⟩ := pz
  unfold iA at eg;split at eg
  ·cases eg; cases hw
   obtain ⟨v, rfl, bv⟩ := b.one;obtain ⟨a, us, rfl, sq, L, ol⟩ := bv.lst;exact .inl ⟨a, us, rfl, .inl sq, by rw [ol.length]; exact q⟩
  ·cases eg; cases hw
   obtain ⟨v, rfl, bv⟩ := b.one;obtain ⟨a, us, rfl, sq, L, ol⟩ := bv.tup;exact .inl ⟨a, us, rfl, .inr sq, by rw [ol.length]; exact q⟩
  ·split at eg
   ·rename_i hz
    cases eg; cases hw;obtain ⟨v, rfl, bv⟩ := b.one;exact .inr ⟨_, by rw [bv.str], hz, q⟩
   ·cases eg
  ·cases eg
 ·unfold iA at h
  split at h
  ·cases h; exact ⟨_, rfl⟩
  ·cases h; exact ⟨_, rfl⟩
  ·split at h
   ·cases h; exact ⟨_, rfl⟩
   ·cases h
  ·cases h
noncomputable def qU : List D -> Option D
 | [.int i] => some (.int i)
 | [.bl b] => some (.int (if b then 1 else 0))
 | _ => none
theorem BM : ic X (.type "int") qU := by
 refine ⟨gC vT fun vs H Q pz => ?_, fun ds d h => ?_⟩
 ·obtain ⟨F, ds, d, w, b, eg, hw, q⟩ := pz
  unfold qU at eg;split at eg
  ·cases eg; cases hw
   obtain ⟨v, rfl, bv⟩ := b.one;exact .inl ⟨_, by rw [bv.int], q⟩
  ·cases eg; cases hw
   obtain ⟨v, rfl, bv⟩ := b.one;exact .inr ⟨_, by rw [bv.bl], q⟩
  ·cases eg
 ·unfold qU at h
  split at h <;> first | (cases h; exact ⟨_, rfl⟩) | cases h
noncomputable def rV : List D -> Option D
 | [.int i] => some (.int (if i < 0 then -i else i))
 | _ => none
theorem BN : ic X (.builtin "abs") rV := by
 refine ⟨gC xa fun vs H Q pz => ?_, fun ds d h => ?_⟩
 ·obtain ⟨F, ds, d, w, b, eg, hw, q⟩ := pz
  unfold rV at eg;split at eg
  ·cases eg; cases hw
   obtain ⟨v, rfl, bv⟩ := b.one;exact ⟨_, by rw [bv.int], q⟩
  ·cases eg
 ·unfold rV at h
  split at h <;> first | (cases h; exact ⟨_, rfl⟩) | cases h
noncomputable def lI : List D -> Option D
 | [.int i, .int j] => some (.int (if j > i then j else i))
 | _ => none
noncomputable def lH : List D -> Option D
 | [.int i, .int j] => some (.int (if j < i then j else i))
 | _ => none
theorem vV (hc : X.calm = true) : ic X (.builtin "max") lI := by
 refine ⟨gC (vR hc) fun vs H Q pz => ?_, fun ds d h => ?_⟩
 ·obtain ⟨F, ds, d, w, b, eg, hw, q⟩ := pz
  unfold lI at eg;split at eg
  ·cases eg; cases hw
   obtain ⟨v, u, rfl, bv, bu⟩ := b.two;exact ⟨_, _, by rw [bv.int, bu.int], q⟩
  ·cases eg
 ·unfold lI at h
  split at h <;> first | (cases h; exact ⟨_, rfl⟩) | cases h
theorem vU (hc : X.calm = true) : ic X (.builtin "min") lH := by
 refine ⟨gC (vQ hc) fun vs H Q pz => ?_, fun ds d h => ?_⟩
 ·obtain ⟨F, ds, d, w, b, eg, hw, q⟩ := pz
  unfold lH at eg;split at eg
  ·cases eg; cases hw
   obtain ⟨v, u, rfl, bv, bu⟩ := b.two;exact ⟨_, _, by rw [bv.int, bu.int], q⟩
  ·cases eg
 ·unfold lH at h
  split at h <;> first | (cases h; exact ⟨_, rfl⟩) | cases h
noncomputable def p8 : D -> Option Value
 | .non => some (.type "NoneType")
 | .bl _ => some (.type "bool")
 | .int _ => some (.type "int")
 | .str _ => some (.type "str")
 | .lst _ _ => some (.type "list")
 | .tup _ => some (.type "tuple")
 | _ => none
noncomputable def isiA : List String := ["NoneType", "bool", "int", "str", "list", "tuple"]
noncomputable def isiB : List String := ["int", "bool", "str", "list", "tuple"]
noncomputable def mZ (a b : String) : Option Bool := if (isiA.contains a && isiB.contains b) = true then some (a == b || (a == "bool" && b == "int")) else none
noncomputable def p7 : D -> Option String
 | .non => some "NoneType"
 | .bl _ => some "bool"
 | .int _ => some "int"
 | .str _ => some "str"
 | .lst _ _ => some "list"
 | .tup _ => some "tuple"
 | _ => none
theorem yT {x : D} {a : String} (h : p7 x = some a) : p8 x = some (.type a) := by
 cases x <;> first | (cases h; rfl) | cases h
noncomputable def oJ (ds : List D) : Option D := match ds with
 | [x, .ty t] => (p7 x).bind fun a => (mZ a t).map .bl
 | _ => none
theorem wO {K : PySem.W.Frag} {a b : String} {k : Bool} (h : mZ a b = some k) : kitOne K (.type a) (.type b) = some k := by
 unfold mZ at h;split at h
 ·rename_i hc
  rw [Bool.and_eq_true, List.contains_iff_mem, List.contains_iff_mem] at hc;obtain ⟨ha, hb⟩ := hc;simp only [isiA, isiB, List.mem_cons, List.not_mem_nil, or_false] at ha hb;rcases ha with rfl | rfl | rfl | rfl | rfl | rfl <;> rcases hb with rfl | rfl | rfl | rfl | rfl <;> (cases h; rfl)
 ·cases h
theorem vj {o : Option Bool} {d : D} (h : o.map D.bl = some d) : ∃ k, o = some k /\ d = .bl k := by
 cases o with
 | none => cases h
 | some k => cases h; exact ⟨k, rfl, rfl⟩
theorem yZ {ab : List (Addr × Obj)} {σ : St} {H : Hp} {s : Shared} {F : Addr -> Prop} {x : D} {v : V} {u : Value} {t c : Value} {b : Bool} {Q : Value -> Shared -> Prop} {E : Value -> Shared -> Prop} (I : L2.Inv X ab σ H s) (bo : Bor X.K F H x v) (rv : RelV v u) (hk : p8 x = some t)
  (e : kitOne X.K t c = some b) (h : ∀ tk, Q (.bool b) { s with toks := tk }) : wpAny (model X.prog X.w) X.A (call (.builtin "isinstance") [u, c]) Q E s := by
 unfold p8 at hk;split at hk
 ·cases hk; rw [bo.sc (w := .non) rfl] at rv; exact ju I rv (.non) e h
 ·cases hk; rw [bo.bl] at rv; exact ju I rv (.bl _) e h
 ·cases hk; rw [bo.int] at rv; exact ju I rv (.int _) e h
 ·cases hk; rw [bo.str] at rv; exact ju I rv (.str _) e h
 ·cases hk
  obtain ⟨a, vs, rfl, sq, L, ol⟩ := bo.lst;cases rv;obtain ⟨its, o, n, _, e1, e2, e3⟩ := qF I sq;exact kia_one kitx_list I.kIn ⟨_, e1, e2⟩ e (fun z => nomatch z) h
 ·cases hk
  obtain ⟨a, vs, rfl, sq, L, ol⟩ := bo.tup;cases rv;obtain ⟨its, o, n, _, e1, e2, e3⟩ := sJ I sq;exact kia_one kitx_tuple I.kIn ⟨_, e1, e2⟩ e (fun z => nomatch z) h
 ·cases hk
theorem BL : ic X (.builtin "isinstance") oJ := by
 refine ⟨fun ab s σ H vs us Q I rv pz => ?_, fun ds d h => ?_⟩
 ·obtain ⟨F, ds, d, w, b, eg, hw, q⟩ := pz
  have key : ∀ {x : D} {a t : String}, ds = [x, .ty t] -> p8 x = some (.type a) -> (mZ a t).map D.bl = some d -> wpAny (model X.prog X.w) X.A (call (.builtin "isinstance") us) (EP X ab σ Q) X.xe s := fun {x a t} e1 e2 e3 => by
   subst e1;obtain ⟨k, e4, rfl⟩ := vj e3;cases hw;obtain ⟨v, u, rfl, bv, bu⟩ := b.two;obtain ⟨u1, u2, rfl, r1, r2⟩ := tO rv;have hu : u = .ty t := bu.sc rfl;subst hu;cases r2;exact yZ I bv r1 e2 (wO e4) fun tk => ⟨.bl k, H, I.tok tk, rfl, q⟩
  unfold oJ at eg;split at eg
  ·rename_i x t
   rcases hk : p7 x with _ | a
   ·rw [hk] at eg; cases eg
   ·rw [hk] at eg
    exact key rfl (yT hk) eg
  ·cases eg
 ·unfold oJ at h
  split at h
  ·rename_i x t
   rcases hk : p7 x with _ | a
   ·rw [hk] at h; cases h
   ·rw [hk] at h
    obtain ⟨k, _, rfl⟩ := vj h;exact ⟨_, rfl⟩
  ·cases h
noncomputable def i5 : List D -> Option (List Int)
 | [] => some []
 | .int i :: xs => (i5 xs).map fun r => i :: r
 | _ => none
end
noncomputable def iB : D -> List Int -> Option D
 | t, [] => some t
 | .lst _ xs, j :: js => (cy xs j).bind fun x => iB x js
 | .tup xs, j :: js => (cy xs j).bind fun x => iB x js
 | _, _ :: _ => none
noncomputable def jE : D -> List Int -> D -> D
 | _, [], d => d
 | .lst o xs, j :: js, d => match fD xs.length j with | some k => (match xs[k]? with | some x => .lst o (xs.set k (jE x js d)) | none => .lst o xs) | none => .lst o xs
 | .tup xs, j :: js, d => match fD xs.length j with | some k => (match xs[k]? with | some x => .tup (xs.set k (jE x js d)) | none => .tup xs) | none => .tup xs
 | t, _ :: _, _ => t
noncomputable def Lc (H : Hp) : V -> List Int -> V -> Prop
 | v, [], w => w = v
 | v, j :: js, w => ∃ a vs u, v = .ref a /\ (H a = some (.lst vs) \/ H a = some (.tup vs)) /\ cy vs j = some u /\ Lc H u js w
theorem nT {α : Type} {xs : List α} {j : Int} {x : α} (h : cy xs j = some x) : ∃ k, fD xs.length j = some k /\ xs[k]? = some x := by
 unfold cy at h;rcases hk : fD xs.length j with _ | k
 ·rw [hk] at h; cases h
 ·rw [hk] at h; exact ⟨k, rfl, h⟩
section
variable {K : PySem.W.Frag} {F F' : Addr -> Prop} {H H' : Hp} {σD : aZ} {σ : St} {R S S' : Ro}
theorem Lc.grow {H H' : Hp} (k : ∀ a o, H a = some o -> H' a = some o) : ∀ {js : List Int} {v w : V}, Lc H v js w -> Lc H' v js w
 | [], _, _, h => h
 | j :: js, _, _, ⟨a, vs, u, e, h, hu, r⟩ => ⟨a, vs, u, e, by rcases h with h | h; exact .inl (k _ _ h); exact .inr (k _ _ h), hu, Lc.grow k r⟩
theorem Ow.focus : ∀ {js : List Int} {t : D} {v : V} {L : List Addr} {xs : List D}, Ow K F H t v L -> iB t js = some (.lst true xs) ->
  ∃ l La Lx Lb, Lc H v js (.ref l) /\ L = La ++ (l :: Lx) ++ Lb /\ (∃ vs, H l = some (.lst vs) /\ OwL K F H xs vs Lx) /\
   ∀ (F' : Addr -> Prop) (H' : Hp) (d' : D) (Lx' : List Addr), Ext F H F' H' -> (∀ a ∈ La ++ Lb, H' a = H a) -> Ow K F' H' d' (.ref l) Lx' -> Ow K F' H' (jE t js d') v (La ++ Lx' ++ Lb) := by
 intro js
 induction js with
 | nil =>
  intro t v L xs o e;simp only [iB] at e;cases e;simp only [Ow] at o;obtain ⟨l, vs, L', rfl, h, ol, rfl⟩ := o;refine ⟨l, [], L', [], rfl, (List.append_nil _).symm, ⟨vs, h, ol⟩, fun F' H' d' Lx' x k o' => ?_⟩;simp only [jE, List.nil_append, List.append_nil];exact o'
 | cons j js ih =>
  intro t v L xs o e;cases t with
  | lst b ys =>
   simp only [iB] at e;rcases h1 : cy ys j with _ | y
   ·rw [h1] at e; cases e
   rw [h1] at e; simp only [bind_some] at e;obtain ⟨k, hk, hy⟩ := nT h1;cases b with
   | true =>
    simp only [Ow] at o;obtain ⟨a, vs, L', rfl, ha, ol, rfl⟩ := o;obtain ⟨w, La, Ly, Lb, ew, rfl, oy, back⟩ := ol.kid hy;obtain ⟨l, Ma, Mx, Mb, lc, rfl, hl, back2⟩ := ih oy e;refine ⟨l, a :: (La ++ Ma), Mx, Mb ++ Lb, ⟨a, vs, w, rfl, .inl ha, ?_, lc⟩, by simp, hl, fun F' H' d' Lx' x kk o' => ?_⟩
    ·unfold cy; rw [ol.length, hk]; exact ew
    ·have o2 := back2 F' H' d' Lx' x (fun b hb => kk b (by simp at hb ⊢; rcases hb with hb | hb <;> simp [hb])) o'
     have o3 := back F' H' _ _ x (fun b hb => kk b (by simp at hb ⊢; rcases hb with hb | hb <;> simp [hb])) o2;simp only [jE, hk, hy, Ow];exact ⟨a, vs, _, rfl, (kk a (by simp)).trans ha, o3, by simp⟩
   | false =>
    exfalso;simp only [Ow] at o;obtain ⟨a, vs, rfl, _, ol, rfl⟩ := o;obtain ⟨w, La, Ly, Lb, ew, eL, oy, back⟩ := ol.kid hy;obtain ⟨l, Ma, Mx, Mb, lc, rfl, hl, back2⟩ := ih oy e;simp at eL
  | tup ys =>
   simp only [iB] at e;rcases h1 : cy ys j with _ | y
   ·rw [h1] at e; cases e
   rw [h1] at e; simp only [bind_some] at e;obtain ⟨k, hk, hy⟩ := nT h1;simp only [Ow] at o;obtain ⟨a, vs, rfl, ft, ol⟩ := o;obtain ⟨w, La, Ly, Lb, ew, rfl, oy, back⟩ := ol.kid hy;obtain ⟨l, Ma, Mx, Mb, lc, rfl, hl, back2⟩ := ih oy e;have ft' : F a /\ H a = some (.tup vs) := by
    rcases ft with h | ⟨_, h⟩
    ·exact h
    ·simp at h
   refine ⟨l, La ++ Ma, Mx, Mb ++ Lb, ⟨a, vs, w, rfl, .inr ft'.2, ?_, lc⟩, by simp, hl, fun F' H' d' Lx' x kk o' => ?_⟩
   ·unfold cy; rw [ol.length, hk]; exact ew
   ·have o2 := back2 F' H' d' Lx' x (fun b hb => kk b (by simp at hb ⊢; rcases hb with hb | hb <;> simp [hb])) o'
    have o3 := back F' H' _ _ x (fun b hb => kk b (by simp at hb ⊢; rcases hb with hb | hb <;> simp [hb])) o2;simp only [jE, hk, hy, Ow];exact ⟨a, vs, rfl, .inl ⟨(x a ft'.1).1, (x a ft'.1).2.trans ft'.2⟩, by simpa using o3⟩
  | _ => simp only [iB] at e; cases e
theorem Rel.listAt {t : D} {v : V} {js : List Int} {xs : List D} (r : Rel K F H σD σ ((t, v) :: (S ++ R))) (e : iB t js = some (.lst true xs)) :
  ∃ l vs, Lc H v js (.ref l) /\ H l = some (.lst vs) /\ xs.length = vs.length /\ ∀ (ys : List D) (ws : List V) (S' : Ro), (xs.zip vs ++ S).Perm (ys.zip ws ++ S') -> ys.length = ws.length ->
   Rel K F (bq H l (.lst ws)) σD σ ((jE t js (.lst true ys), v) :: (S' ++ R)) /\ Ext F H F (bq H l (.lst ws)) := by
 obtain ⟨L, ⟨L1, L23, o1, h23, rfl⟩, nd, nf⟩ := r.front.own;obtain ⟨l, La, Lx, Lb, lc, rfl, ⟨vs, hl, ol⟩, back⟩ := o1.focus e;refine ⟨l, vs, lc, hl, ol.toP.1, fun ys ws S' p hlen => ?_⟩;have h23' : OwP K F H (S ++ (R ++ sl σD σ)) L23 := by rw [<- List.append_assoc]; exact h23
 obtain ⟨L2, L3, rfl, h2, h3⟩ := h23'.split;obtain ⟨M, pm, hM⟩ := (ol.toP.2.append h2).perm p;obtain ⟨M1, M2, rfl, hM1, hM2⟩ := hM.split;have all : ((La ++ (l :: Lx) ++ Lb) ++ (L2 ++ L3)).Perm (l :: (La ++ Lb ++ (Lx ++ L2) ++ L3)) := by
  have h1 : ((La ++ (l :: Lx) ++ Lb) ++ (L2 ++ L3)) = La ++ l :: (Lx ++ (Lb ++ (L2 ++ L3))) := by simp
  rw [h1];refine List.perm_middle.trans (.cons _ ?_);have h2 : La ++ Lb ++ (Lx ++ L2) ++ L3 = La ++ (Lb ++ (Lx ++ (L2 ++ L3))) := by simp
  rw [h2];exact (List.perm_append_comm_assoc _ _ _).append_left La
 have nd1 := all.nodup_iff.mp nd;have nl : ∀ a ∈ La ++ Lb ++ (Lx ++ L2) ++ L3, a ≠ l := fun a ha z => (List.nodup_cons.mp nd1).1 (z ▸ ha)
 have nF : ∀ a, F a -> a ≠ l := fun a fa z => nf l (all.mem_iff.mpr (by simp)) (z ▸ fa)
 have x : Ext F H F (bq H l (.lst ws)) := fun a fa => ⟨fa, bL (nF a fa)⟩
 have kM : ∀ a ∈ M1 ++ M2, bq H l (.lst ws) a = H a := fun a ha => bL (nl a (by
  have := pm.mem_iff.mpr ha
  simp at this ⊢;rcases this with h | h <;> simp [h]))
 have o2 : Ow K F (bq H l (.lst ws)) (.lst true ys) (.ref l) (l :: M1) := by
  simp only [Ow];exact ⟨l, ws, M1, rfl, cW, OwL.ofP hlen (hM1.mono x fun a ha => kM a (by simp [ha])), rfl⟩
 have o3 := back F (bq H l (.lst ws)) (.lst true ys) (l :: M1) x (fun a ha => bL (nl a (by simp at ha ⊢; rcases ha with h | h <;> simp [h]))) o2;refine ⟨Rel.of r.mt ⟨⟨(La ++ (l :: M1) ++ Lb) ++ (M2 ++ L3), ⟨_, M2 ++ L3, o3, ?_, rfl⟩, ?_, ?_⟩, fun a fa => ?_⟩, x⟩
 ·show OwP K F (bq H l (.lst ws)) ((S' ++ R) ++ sl σD σ) (M2 ++ L3)
  rw [List.append_assoc];exact (hM2.mono x fun a ha => kM a (by simp [ha])).append (h3.mono x fun a ha => bL (nl a (by simp [ha])))
 ·have p2 : ((La ++ (l :: M1) ++ Lb) ++ (M2 ++ L3)).Perm ((La ++ (l :: Lx) ++ Lb) ++ (L2 ++ L3)) := by
   refine List.Perm.trans ?_ all.symm;have h1 : ((La ++ (l :: M1) ++ Lb) ++ (M2 ++ L3)) = La ++ l :: (M1 ++ (Lb ++ (M2 ++ L3))) := by simp
   rw [h1];refine List.perm_middle.trans (.cons _ ?_);have h2 : La ++ Lb ++ (Lx ++ L2) ++ L3 = La ++ (Lb ++ ((Lx ++ L2) ++ L3)) := by simp
   rw [h2];refine List.Perm.append_left La ?_;refine (List.perm_append_comm_assoc _ _ _).trans (List.Perm.append_left Lb ?_);rw [<- List.append_assoc];exact pm.symm.append_right L3
  exact p2.nodup_iff.mpr nd
 ·intro a ha fa
  refine nf a ?_ fa;simp only [List.mem_append, List.mem_cons] at ha ⊢;rcases ha with ((h | h | h) | h) | h | h
  ·simp [h]
  ·simp [h]
  ·have := pm.mem_iff.mpr (List.mem_append_left M2 h)
   rcases List.mem_append.mp this with z | z <;> simp [z]
  ·simp [h]
  ·have := pm.mem_iff.mpr (List.mem_append_right M1 h)
   rcases List.mem_append.mp this with z | z <;> simp [z]
  ·simp [h]
 ·rw [bL (nF a fa)]; exact r.g.dom a fa
end
noncomputable def vK : List DP -> aZ -> Option (List Int)
 | [], _ => some []
 | p :: ps, σ => (p σ).bind fun d => match d with | .int i => (vK ps σ).map fun r => i :: r | _ => none
theorem Lc.uniq {H : Hp} : ∀ {js : List Int} {v w w' : V}, Lc H v js w -> Lc H v js w' -> w = w' := by
 intro js
 induction js with
 | nil => intro v w w' h h'; exact h.trans h'.symm
 | cons j js ih =>
  intro v w w' q q';obtain ⟨a, vs, u, e, h, hu, r⟩ := q;obtain ⟨a', vs', u', e', h', hu', r'⟩ := q';subst e;cases e';have ev : vs = vs' := by
   rcases h with h | h <;> rcases h' with h' | h' <;> rw [h] at h' <;> cases h' <;> rfl
  subst ev;rw [hu] at hu';cases hu';exact ih r r'
noncomputable def rP (K : PySem.W.Frag) (i : Nat) (js : List DP) : TE := fun σ H Q => ∃ F R σD v0 path w, Rel K F H σD σ R /\ σ[i]? = some (some v0) /\ vK js σD = some path /\ Lc H v0 path w /\ ∀ F' H', Grow F H F' H' -> Q w H'
noncomputable def QP (X : Cx) (e : Expr) (i : Nat) (js : List DP) : Prop := PE X e (rP X.K i js)
section
variable {X : Cx} {e o a b : Expr} {es : List Expr} {p q : DP} {c c' : DE} {pos apos cpos : Pos} {i : Nat} {js : List DP}
theorem t2 (i : Nat) {x : Str} {pos : Pos} (hN : autoParam (X.N[i]? = some x) bj._auto_1) (hv : autoParam (kH X.env.scope x) mv._auto_1) (hd : autoParam ((x == ("__debug__" : Str)) = false) cz._auto_1)
  (hcd : autoParam ((x == ("__classdict__" : Str)) = false) cz._auto_1) : QP X (.Name x pos) i [] := bH (fY hN hv hd hcd) fun σ H Q hq0 => by
 obtain ⟨F, R, σD, v0, path, w, r, hv0, ep, lc, k⟩ := hq0;cases ep;cases lc;exact ⟨_, hv0, k F H Grow.refl⟩
end
section
variable {X : Cx} {e o a b : Expr} {es : List Expr} {p q : DP} {c c' : DE} {pos apos cpos : Pos} {i : Nat} {js : List DP}
noncomputable def gT (i : Nat) (c : DE) : DE := fun σ => match da σ i with
 | some (.lst _ _) => (c σ).bind fun p => match da p.2 i with
  | some (.lst true xs) => if xs.length < sizeLine then some (.non, p.2.set i (some (.lst true (xs ++ [p.1])))) else none
  | _ => none
 | _ => none
theorem g9 (i : Nat) {x : Str} {npos : Pos} (he : QE X e c) (hN : autoParam (X.N[i]? = some x) bj._auto_1) (hv : autoParam (kH X.env.scope x) mv._auto_1) (hd : autoParam ((x == ("__debug__" : Str)) = false) cz._auto_1)
  (hcd : autoParam ((x == ("__classdict__" : Str)) = false) cz._auto_1) (hbase : autoParam (attributeBase (.Name x npos) "append" X.env (eval (.Name x npos) X.env) = eval (.Name x npos) X.env) bj._auto_1) (hfew : autoParam (((backTo cpos (starEach [e] X.env)).all (fun x => !x.1) && (backToKw cpos (keywordEach [] X.env)).all (fun x => x.1.isSome)
   && decide (([e] : List Expr).length + ([] : List Keyword).length + (if ([] : List Keyword).isEmpty then 0 else 1) < 30)) = true) bj._auto_1) (hline : autoParam ((apos.endLine == cpos.line) = true) bj._auto_1)
  (hst : autoParam (starEach [e] X.env = (false, eval e X.env) :: starEach [] X.env) bj._auto_1) : QE X (.Call (.Attribute (.Name x npos) "append" apos) [e] [] cpos) (gT i c) :=
 bH (xz PySem.F.plainAttrs_list PySem.F.slot_list_append PySem.F.type_list_append px (fY hN hv hd hcd) (eB he fZ hst) hbase hfew hline hst rfl) fun σ H Q hq0 => by
  obtain ⟨F, R, σD, d, σD', r, ec, k⟩ := hq0;unfold gT at ec;split at ec
  ·rename_i own ys h0
   obtain ⟨v0, hv0, b0⟩ := r.get (cG h0);obtain ⟨a0, vs0, rfl, sq0, _⟩ := b0.lst;rcases h1 : c σD with _ | ⟨y, σ1⟩
   ·rw [h1] at ec; cases ec
   ·rw [h1] at ec; simp only [bind_some] at ec
    split at ec
    ·rename_i xs h2
     split at ec
     ·rename_i hz
      cases ec;refine ⟨_, hv0, .inl ⟨rfl, vs0, sq0⟩, F, R, σD, y, σ1, r, h1, fun F1 H1 v x1 r1 => ?_⟩;obtain ⟨v1, hv1, r2⟩ := r1.take (cG h2);rw [hv0] at hv1; cases hv1;obtain ⟨l, vs, lc, hl, hlen, upd'⟩ := Rel.listAt (S := [(y, v)]) (js := []) (xs := xs) r2 rfl;cases lc;obtain ⟨r3, x3⟩ := upd' (xs ++ [y]) (vs ++ [v]) [] (by rw [List.zip_append hlen]; simp) (by simp [hlen]);refine ⟨_, vs, v, rfl, rfl, hl, by omega, ?_⟩;have r4 := (Rel.put (R := R) r3 hv0);rw [List.set_set] at r4;exact k F1 _ .non (x1.trans x3) (r4.scal rfl)
     ·cases ec
    ·cases ec
  ·cases ec
noncomputable def lm (i : Nat) (js : List DP) (q : DP) : DG := fun d σ => (da σ i).bind fun t => (vK js σ).bind fun path => (iB t path).bind fun n => match n with
 | .lst true xs => (q σ).bind fun y => match y with
  | .int k => (fD xs.length k).map fun j => σ.set i (some (jE t path (.lst true (xs.set j d))))
  | _ => none
 | _ => none
theorem xX : ∀ {xs : List D} {vs : List V} {j : Nat} {d : D} {v : V}, xs.length = vs.length -> j < xs.length -> ∃ x w, ((xs.zip vs) ++ [(d, v)]).Perm ((xs.set j d).zip (vs.set j v) ++ [(x, w)]) := by
 intro xs
 induction xs with
 | nil => intro vs j d v hl hj; exact absurd hj (Nat.not_lt_zero _)
 | cons x xs ih =>
  intro vs j d v hl hj;cases vs with
  | nil => cases hl
  | cons w vs => cases j with
   | zero =>
    refine ⟨x, w, ?_⟩;show ((x, w) :: (xs.zip vs ++ [(d, v)])).Perm ((d, v) :: (xs.zip vs ++ [(x, w)]));have h1 : ((x, w) :: (xs.zip vs ++ [(d, v)])).Perm ((x, w) :: (d, v) :: xs.zip vs) := (List.perm_append_comm).cons _;have h2 : ((d, v) :: (xs.zip vs ++ [(x, w)])).Perm ((d, v) :: (x, w) :: xs.zip vs) := (List.perm_append_comm).cons _;exact (h1.trans (.swap _ _ _)).trans h2.symm
   | succ j =>
    obtain ⟨y, u, h⟩ := ih (vs := vs) (j := j) (d := d) (v := v) (Nat.succ.inj hl) (Nat.lt_of_succ_lt_succ hj);exact ⟨y, u, h.cons _⟩
theorem nw (ho : QP X o i js) (hq : QB X a q) (ha : autoParam (∀ v, assign (.Subscript o a pos) X.env v = (do
   let ov <- holding [v] (eval o X.env)
   let iv <- holding [v, ov] (eval a X.env)
   standAt pos
   holding [v, ov, iv] (setItem ov iv v)
   release [v, ov, iv] [])) kJ._auto_1) : QG X (.Subscript o a pos) (lm i js q) [] := se (zT ho hq wd ha) fun v σ H Q hq0 => by
 obtain ⟨F, R, σD, d, σD', r, ec, k⟩ := hq0;unfold lm at ec;rcases h1 : da σD i with _ | t
 ·rw [h1] at ec; cases ec
 ·rw [h1] at ec; simp only [bind_some] at ec
  rcases h2 : vK js σD with _ | path
  ·rw [h2] at ec; cases ec
  ·rw [h2] at ec; simp only [bind_some] at ec
   rcases h3 : iB t path with _ | n
   ·rw [h3] at ec; cases ec
   ·rw [h3] at ec; simp only [bind_some] at ec
    split at ec
    ·rename_i xs
     rcases h4 : q σD with _ | y
     ·rw [h4] at ec; cases ec
     ·rw [h4] at ec; simp only [bind_some] at ec
      split at ec
      ·rename_i kk
       rcases h5 : fD xs.length kk with _ | j
       ·rw [h5] at ec; cases ec
       ·rw [h5] at ec; cases ec
        obtain ⟨v0, hv0, r0⟩ := r.take (cG h1);obtain ⟨l0, vs0, lc0, hl0, _⟩ := Rel.listAt (S := [(d, v)]) r0 h3;refine ⟨F, _, σD, v0, path, .ref l0, r, hv0, h2, lc0, fun F1 H1 g1 => ?_⟩;refine ⟨F1, _, σD, _, r.grow g1, h4, fun F2 H2 u g2 b2 => ?_⟩;have g3 := g1.trans g2;obtain ⟨v1, hv1, r1⟩ := (r.grow g3).take (cG h1);rw [hv0] at hv1; cases hv1;obtain ⟨l, vs, lc, hl, hlen, upd'⟩ := Rel.listAt (S := [(d, v)]) r1 h3;have el : l0 = l := by
         have := (lc0.grow g3.k).uniq lc
         injection this
        subst el;have hj : j < xs.length := (oI h5).2.1;obtain ⟨xo, wo, pm⟩ := xX (d := d) (v := v) hlen hj;obtain ⟨r3, x3⟩ := upd' (xs.set j d) (vs.set j v) [(xo, wo)] pm (by simp [hlen]);refine ⟨l0, vs, kk, j, rfl, b2.int, hl, by rw [<- hlen]; exact h5, ?_⟩;have r4 := (Rel.put (R := (xo, wo) :: R) r3 hv0);rw [List.set_set] at r4;exact k F2 _ σ (g3.x.trans x3) Kp.refl r4.pop
      ·cases ec
    ·cases ec
end
section
variable {K : PySem.W.Frag} {F F' : Addr -> Prop} {H H' : Hp} {σD : aZ} {σ : St} {R S : Ro}
theorem OwL.drop : ∀ {n : Nat} {xs : List D} {vs : List V}, OwL K F H xs vs [] -> OwL K F H (xs.drop n) (vs.drop n) []
 | 0, _, _, h => h
 | n + 1, [], vs, h => by simp only [OwL] at h; rw [h.1]; simp [OwL]
 | n + 1, x :: xs, vs, h => by
  simp only [OwL] at h;obtain ⟨v, ws, L1, L2, rfl, h1, h2, e⟩ := h;obtain ⟨rfl, rfl⟩ := List.append_eq_nil_iff.mp e.symm;exact OwL.drop (n := n) h2
theorem OwL.take : ∀ {n : Nat} {xs : List D} {vs : List V}, OwL K F H xs vs [] -> OwL K F H (xs.take n) (vs.take n) []
 | 0, _, _, _ => by simp [OwL]
 | n + 1, [], vs, h => by simp only [OwL] at h; rw [h.1]; simp [OwL]
 | n + 1, x :: xs, vs, h => by
  simp only [OwL] at h;obtain ⟨v, ws, L1, L2, rfl, h1, h2, e⟩ := h;obtain ⟨rfl, rfl⟩ := List.append_eq_nil_iff.mp e.symm;simp only [List.take_succ_cons, OwL];exact ⟨v, ws.take n, [], [], rfl, h1, OwL.take (n := n) h2, rfl⟩
theorem Rel.pushL : ∀ {xs : List D} {vs : List V}, OwL K F H xs vs [] -> Rel K F H σD σ R -> Rel K F H σD σ (xs.zip vs ++ R)
 | [], vs, h, r => by simp only [OwL] at h; rw [h.1]; exact r
 | x :: xs, vs, h, r => by
  simp only [OwL] at h;obtain ⟨v, ws, L1, L2, rfl, h1, h2, e⟩ := h;obtain ⟨rfl, rfl⟩ := List.append_eq_nil_iff.mp e.symm;exact (Rel.pushL h2 r).push h1
end
noncomputable def fO {α : Type} (xs : List α) (lo hi : Option Int) : List α := (xs.drop (HT.sIx xs.length 0 lo)).take (HT.sIx xs.length xs.length hi - HT.sIx xs.length 0 lo)
noncomputable def jZ : Option DP -> aZ -> Option (Option Int)
 | none, _ => some none
 | some p, σ => (p σ).bind fun d => match d with | .int i => some (some i) | _ => none
noncomputable def rO (K : PySem.W.Frag) (p : Option DP) : TO := fun σ H Q => ∃ F R σD o, Rel K F H σD σ R /\ jZ p σD = some o /\ ∀ F' H', Grow F H F' H' -> Q o H'
noncomputable def QO (X : Cx) (e : Option Expr) (p : Option DP) : Prop := PO X e (rO X.K p)
theorem v6 {X : Cx} {e : Option Expr} {t t' : TO} (h : PO X e t) (i : ∀ σ H Q, t' σ H Q -> t σ H Q) : PO X e t' := fun ab s σ H Q I h' => h ab s σ H Q I (i σ H Q h')
section
variable {X : Cx} {e a b : Expr} {lo hi : Option Expr} {pl ph : Option DP} {p q : DP} {c c' : DE} {pos p2 : Pos} {i : Nat}
theorem dJ : QO X none none := v6 yA fun σ H Q hq0 => by obtain ⟨F, R, σD, o, r, ec, k⟩ := hq0; cases ec; exact k F H Grow.refl
theorem dg (h : QB X e p) : QO X (some e) (some p) := v6 (yz h) fun σ H Q hq0 => by
 obtain ⟨F, R, σD, o, r, ec, k⟩ := hq0;simp only [jZ] at ec;rcases h1 : p σD with _ | d
 ·rw [h1] at ec; cases ec
 ·rw [h1] at ec; simp only [bind_some] at ec
  split at ec
  ·cases ec
   exact ⟨F, R, σD, _, r, h1, fun F' H' v g b => ⟨_, b.int, k F' H' g⟩⟩
  ·cases ec
noncomputable def C1 (c : DE) (pl ph : Option DP) : DE := fun σ => (c σ).bind fun p => match p.1 with
 | .lst _ xs => (jZ pl p.2).bind fun l => (jZ ph p.2).map fun h => (.lst true (fO (D.fzL xs) l h), p.2)
 | _ => none
noncomputable def gS (c c' : DE) : DE := fun σ => (c σ).bind fun p => (c' p.2).bind fun q => match p.1, q.1 with
 | .lst true xs, .lst true ys => if xs.length + ys.length <= sizeLine then some (.lst true (xs ++ ys), q.2) else none
 | _, _ => none
theorem fX (ha : QE X a c) (hb : QE X b c') : QE X (.BinOp a .Add b pos) (gS c c') := bH (p5 Ad ha hb) fun σ H Q hq0 => by
 obtain ⟨F, R, σD, d, σD', r, ec, k⟩ := hq0;unfold gS at ec;rcases h1 : c σD with _ | ⟨x, σ1⟩
 ·rw [h1] at ec; cases ec
 ·rw [h1] at ec; simp only [bind_some] at ec
  rcases h2 : c' σ1 with _ | ⟨y, σ2⟩
  ·rw [h2] at ec; cases ec
  ·rw [h2] at ec; simp only [bind_some] at ec
   split at ec
   ·rename_i xs ys
    split at ec
    ·rename_i hz
     cases ec;refine ⟨F, R, σD, _, σ1, r, h1, fun F1 H1 v x1 r1 => ?_⟩;refine ⟨F1, _, σ1, _, _, r1, h2, fun F2 H2 u x2 r2 => ?_⟩;obtain ⟨l2, ws, rfl, hw, hlw, r3⟩ := r2.openL;have r3' := (r3.pop).perm (List.perm_middle (a := ((.lst true xs : D), v)) (l₁ := ys.zip ws) (l₂ := R));obtain ⟨l1, us, rfl, hu, hlu, r4⟩ := r3'.openL;refine ⟨l1, l2, us, ws, rfl, rfl, hu, hw, by rw [<- hlu, <- hlw]; exact hz, fun p hp => ?_⟩;have r5 : Rel X.K F2 H2 σD' σ ((xs ++ ys).zip (us ++ ws) ++ R) := by
      rw [List.zip_append hlu, List.append_assoc]; exact r4.pop
     obtain ⟨r6, x6⟩ := r5.layL (by simp [hlu, hlw]) hp;exact k F2 _ _ ((x1.trans x2).trans x6) r6
    ·cases ec
   ·cases ec
theorem OwL.app {K : PySem.W.Frag} {F : Addr -> Prop} {H : Hp} : ∀ {xs ys : List D} {vs ws : List V}, OwL K F H xs vs [] -> OwL K F H ys ws [] -> OwL K F H (xs ++ ys) (vs ++ ws) []
 | [], ys, vs, ws, h, h' => by simp only [OwL] at h; rw [h.1]; exact h'
 | x :: xs, ys, vs, ws, h, h' => by
  simp only [OwL] at h;obtain ⟨v, us, L1, L2, rfl, h1, h2, e⟩ := h;obtain ⟨rfl, rfl⟩ := List.append_eq_nil_iff.mp e.symm;simp only [List.cons_append, OwL];exact ⟨v, us ++ ws, [], [], rfl, h1, OwL.app h2 h', rfl⟩
noncomputable def wW : D -> Option D
 | .int i => some (.int (-i))
 | _ => none
noncomputable def gx (p : DP) : DP := fun σ => (p σ).bind wW
theorem vI {x d : D} (h : wW x = some d) : ∃ i, x = .int i /\ d = .int (-i) := by
 cases x <;> first | (cases h; exact ⟨_, rfl, rfl⟩) | cases h
theorem gJ (ha : QB X a p) : QB X (.UnaryOp .USub a pos) (gx p) := bH (Bo zm ha) fun σ H Q hq0 => by
 obtain ⟨F, R, σD, d, r, ec, k⟩ := hq0;unfold gx at ec;rcases h1 : p σD with _ | x
 ·rw [h1] at ec; cases ec
 ·rw [h1] at ec; simp only [bind_some] at ec
  obtain ⟨i, rfl, rfl⟩ := vI ec;exact ⟨F, R, σD, _, r, h1, fun F1 H1 v g1 b1 => ⟨i, b1.int, k F1 H1 _ g1 ⟨[], Ow.of_sc rfl⟩⟩⟩
noncomputable def lS (c c' : DE) : DE := fun σ => (c σ).bind fun p => match p.1 with | .bl true => c' p.2 | .bl false => some (.bl false, p.2) | _ => none
noncomputable def oU (c c' : DE) : DE := fun σ => (c σ).bind fun p => match p.1 with | .bl true => some (.bl true, p.2) | .bl false => c' p.2 | _ => none
variable {dR : List Expr}
theorem uU {op} (h : QE X a c) : QE X (.BoolOp op [a] pos) c := zW h
theorem zI (ha : QE X a c) (hb : QE X (.BoolOp .And (b :: dR) pos) c') : QE X (.BoolOp .And (a :: b :: dR) pos) (lS c c') := bH (zZ ha hb) fun σ H Q hq0 => by
 obtain ⟨F, R, σD, d, σD', r, ec, k⟩ := hq0;unfold lS at ec;rcases h : c σD with _ | ⟨x, σ1⟩
 ·rw [h] at ec; cases ec
 ·rw [h] at ec; simp only [bind_some] at ec
  refine ⟨F, R, σD, x, σ1, r, h, fun F1 H1 v x1 r1 => ?_⟩;split at ec
  ·refine ⟨true, (r1.bor (by simp)).bl, ?_⟩
   simp only [if_true];exact ⟨F1, R, σ1, d, σD', r1.pop, ec, fun F2 H2 v x2 r2 => k F2 H2 v (x1.trans x2) r2⟩
  ·cases ec
   refine ⟨false, (r1.bor (by simp)).bl, ?_⟩;simp only [Bool.false_eq_true, if_false];exact k F1 H1 _ x1 (r1.pop.scal rfl)
  ·cases ec
theorem Bi (ha : QE X a c) (hb : QE X (.BoolOp .Or (b :: dR) pos) c') : QE X (.BoolOp .Or (a :: b :: dR) pos) (oU c c') := bH (Bq ha hb) fun σ H Q hq0 => by
 obtain ⟨F, R, σD, d, σD', r, ec, k⟩ := hq0;unfold oU at ec;rcases h : c σD with _ | ⟨x, σ1⟩
 ·rw [h] at ec; cases ec
 ·rw [h] at ec; simp only [bind_some] at ec
  refine ⟨F, R, σD, x, σ1, r, h, fun F1 H1 v x1 r1 => ?_⟩;split at ec
  ·cases ec
   refine ⟨true, (r1.bor (by simp)).bl, ?_⟩;simp only [if_true];exact k F1 H1 _ x1 (r1.pop.scal rfl)
  ·refine ⟨false, (r1.bor (by simp)).bl, ?_⟩
   simp only [Bool.false_eq_true, if_false];exact ⟨F1, R, σ1, d, σD', r1.pop, ec, fun F2 H2 v x2 r2 => k F2 H2 v (x1.trans x2) r2⟩
  ·cases ec
end
end DD
namespace L2
open PySem PySem.Spec PyProof.Rows
end L2
namespace DD
open PySem PySem.Spec PyProof.Rows L2
section
variable {X : Cx} {a b o e : Expr} {c c' : DE} {p p1 pos1 : Pos} {elts : List Expr} {x1 : Nat} {tpos pos : Pos}
theorem sA {xs : List D} {vs : List V} {j : Nat} {x : D} {w : V} (h1 : xs[j]? = some x) (h2 : vs[j]? = some w) : (x, w) ∈ xs.zip vs := by
 have : (xs.zip vs)[j]? = some (x, w) := List.getElem?_zip_eq_some.mpr ⟨h1, h2⟩;exact List.mem_of_getElem? this
theorem Rel.pick {K : PySem.W.Frag} {F : Addr -> Prop} {H : Hp} {σD : aZ} {σ : St} {R S : Ro} {x : D} {w : V} (r : Rel K F H σD σ (S ++ R)) (h : (x, w) ∈ S) : Rel K F H σD σ ((x, w) :: R) := by
 obtain ⟨A, B, rfl⟩ := List.append_of_mem h;have r1 : Rel K F H σD σ ((A ++ B) ++ ((x, w) :: R)) := r.perm (by
  have h1 : A ++ (x, w) :: B ++ R = A ++ ((x, w) :: (B ++ R)) := by simp
  rw [h1, List.append_assoc];exact (List.perm_middle.symm).append_left A)
 exact r1.popN
theorem de (ha : QE X a c) (hb : QE X b c') (hs : autoParam (lU b) nZ._auto_1) : QE X (.Subscript a b pos) (eE c c') := bH (xy vD ha hb hs) fun σ H Q hq0 => by
 obtain ⟨F, R, σD, d, σD', r, ec, k⟩ := hq0;unfold eE at ec;rcases h1 : c σD with _ | ⟨x, σ1⟩
 ·rw [h1] at ec; cases ec
 ·rw [h1] at ec; simp only [bind_some] at ec
  rcases h2 : c' σ1 with _ | ⟨y, σ2⟩
  ·rw [h2] at ec; cases ec
  ·rw [h2] at ec; simp only [bind_some] at ec
   obtain ⟨z, e1, e2⟩ := cH ec;cases e2;refine ⟨F, R, σD, x, σ1, r, h1, fun F1 H1 v x1 r1 => ?_⟩;refine ⟨F1, _, σ1, y, _, r1, h2, fun F2 H2 u x2 r2 => ?_⟩;have bu := r2.bor (d := y) (v := u) (by simp);have r3 := r2.pop;unfold ff at e1;split at e1
   ·rename_i own xs i
    obtain ⟨j, hj, hx⟩ := nT e1;cases own
    ·obtain ⟨L, ⟨L1, L2, o1, h12, _⟩, _, _⟩ := r3.front.own
     simp only [Ow] at o1;obtain ⟨a1, vs, rfl, fl, ol, _⟩ := o1;obtain ⟨w, La, Lx, Lb, ew, eL, ox, _⟩ := ol.kid hx;have eLx : Lx = [] := (List.append_eq_nil_iff.mp (List.append_eq_nil_iff.mp eL.symm).1).2;subst eLx;refine .inl ⟨a1, vs, i, w, rfl, bu.int, fl.sq, ?_, k F2 H2 w (x1.trans x2) (r3.pop.push ox)⟩;unfold cy; rw [ol.length, hj]; exact ew
    ·obtain ⟨a1, vs, rfl, hh, hl, r4⟩ := r3.openL
     have hjl : j < vs.length := by rw [<- hl]; exact (List.getElem?_eq_some_iff.mp hx).1
     have ew := List.getElem?_eq_getElem hjl;refine .inl ⟨a1, vs, i, vs[j], rfl, bu.int, .inl (.inl hh), ?_, k F2 H2 _ (x1.trans x2) (r4.pop.pick (sA hx ew))⟩;unfold cy; rw [<- hl, hj]; exact ew
   ·rename_i xs i
    obtain ⟨j, hj, hx⟩ := nT e1;obtain ⟨a1, vs, rfl, ft, hl, r4⟩ := r3.openT;have hjl : j < vs.length := by rw [<- hl]; exact (List.getElem?_eq_some_iff.mp hx).1
    have ew := List.getElem?_eq_getElem hjl;refine .inr (.inl ⟨a1, vs, i, vs[j], rfl, bu.int, ft.sq, ?_, k F2 H2 _ (x1.trans x2) (r4.pick (sA hx ew))⟩);unfold cy; rw [<- hl, hj]; exact ew
   ·split at e1
    ·rename_i z2 i hz
     rcases h : cy z2.cps.toList i with _ | ch
     ·rw [h] at e1; cases e1
     ·rw [h] at e1; cases e1
      exact .inr (.inr ⟨z2, i, ch, (r3.bor (by simp)).str, bu.int, hz, h, k F2 H2 _ (x1.trans x2) (r3.pop.scal rfl)⟩)
    ·cases e1
   ·cases e1
end
end DD
namespace L2
open PySem PySem.Spec PyProof.Rows
end L2
namespace DD
open PySem PySem.Spec PyProof.Rows L2
section
variable {X : Cx} {o a e tg : Expr} {q p : DP} {c : DE} {g : D -> D -> Option D} {i : Nat} {js : List DP} {pos tpos : Pos} {op : Operator}
end
section
variable {X : Cx} {tg : Expr} {g : DG} {s : DS} {pos : Pos} {W W' : List Nat} {body : List Stmt}
end
noncomputable abbrev ef : D -> D -> Option D := kC fun i j => i + j
noncomputable abbrev wU : D -> D -> Option D := kC fun i j => i - j
noncomputable abbrev q9 : D -> D -> Option D := kC Builtin.bitAnd
noncomputable abbrev vH : D -> D -> Option D := kC Builtin.bitOr
noncomputable abbrev oP : D -> D -> Option D := gI (fun _ j => decide (0 < j)) fun i j => i % j
noncomputable def rf (_ j : Int) : Bool := decide (0 < j /\ j.natAbs.log2 < 9000)
noncomputable abbrev wX : D -> D -> Option D := gI rf fun i j => i / j
theorem xB {X : Cx} : dB X (binaryOp .FloorDiv) wX := lF (C := fun _ j => 0 < j /\ j.natAbs.log2 < 9000) (sI fun i j _ _ _ _ _ hc q => by
 have h1 : (0 : Int) < j := hc.1;exact floordiv_int oM (by rw [Int.fdiv_eq_ediv_of_nonneg i oM]; exact q) (.inl (PyProof.noPylong_of_log2 hc.2))) fun i j h => by simpa [rf] using h
noncomputable abbrev AG : D -> D -> Option D := gI (fun i j => decide (0 <= j /\ j <= 1000000 /\ i.natAbs < 2 ^ 64)) fun i j => i ^ j.toNat
noncomputable abbrev gz : D -> D -> Option D := gI (fun i j => decide (0 <= j /\ j <= 1000000 /\ i.natAbs < 2 ^ 64)) fun i j => i * 2 ^ j.toNat
noncomputable abbrev wV : D -> D -> Option D := gI (fun _ j => decide (0 <= j)) fun i j => i / 2 ^ j.toNat
noncomputable def ue (i j : Int) : Bool := decide ((-(2 ^ 64) < i /\ i < 2 ^ 64) \/ (-(2 ^ 64) < j /\ j < 2 ^ 64))
noncomputable abbrev i7 : D -> D -> Option D := gI ue fun i j => i * j
theorem iG {X : Cx} : dB X (binaryOp .Mult) i7 := lF Ab fun i j h => by simpa [ue, CMul] using h
noncomputable abbrev qY : D -> D -> Option D := pG fun i j => decide (i < j)
noncomputable abbrev CT : D -> D -> Option D := pG fun i j => decide (j <= i)
noncomputable def qb (N N' : List Str) (names : List (Str × NameKind)) (kd : Str -> Option NameKind) : Bool :=
 decide ((names.map (·.1)).Nodup) && decide (N.length <= N'.length) && names.all (fun p => p.2 != .free || kd p.1 == some .cell || kd p.1 == some .free) &&
  (List.range N.length).all fun i => match N'[i]? with
   | none => true
   | some x => match names.lookup x with
    | none => true
    | some k => k == .free && N[i]? == some x
theorem xM {X : Cx} {N' : List Str} {scope : Scope} (hk : scope.kind = .function) (h : qb X.N N' scope.names X.env.kindOf = true) : lx X N' scope := by
 unfold qb at h;simp only [Bool.and_eq_true, decide_eq_true_eq] at h;obtain ⟨⟨⟨h1, h2⟩, h3⟩, h4⟩ := h;have look : ∀ i x, i < X.N.length -> N'[i]? = some x -> (∃ k, (x, k) ∈ scope.names) -> (x, NameKind.free) ∈ scope.names /\ X.N[i]? = some x := fun i x hi e hq0 => by
  obtain ⟨k, hm⟩ := hq0
  have := List.all_eq_true.mp h4 i (List.mem_range.mpr hi)
  rw [e] at this;simp only at this;rw [eP h1 hm] at this;simp only [Bool.and_eq_true, beq_iff_eq] at this;obtain ⟨e1, e2⟩ := this;subst e1;exact ⟨hm, e2⟩
 refine ⟨hk, h1, h2, fun x hx => ?_, fun i x hi e hx => (look i x hi e ⟨_, hx⟩).2, fun i x hi e hx => (look i x hi e hx).1⟩
 have := List.all_eq_true.mp h3 _ hx
 simp at this;exact this
section
variable {X : Cx} {es : List Expr} {ps : List DP} {pos : Pos}
theorem OwL.ofBor {K : PySem.W.Frag} {F : Addr -> Prop} {H : Hp} : ∀ {ds : List D} {vs : List V}, BorL K F H ds vs -> ∃ L, OwL K F H ds vs L
 | [], [], _ => ⟨[], by simp only [OwL]; exact ⟨trivial, trivial⟩⟩
 | d :: ds, v :: vs, ⟨⟨L1, o⟩, r⟩ => by
  obtain ⟨L2, ol⟩ := OwL.ofBor r;exact ⟨L1 ++ L2, by simp only [OwL]; exact ⟨v, vs, L1, L2, rfl, o, ol, rfl⟩⟩
noncomputable def iz (ps : List DP) : DP := fun σ => (j0 ps σ).bind fun ds => if ds.length <= sizeLine then some (.lst true ds) else none
theorem jT (h : tF X es ps) : QB X (.List es pos) (iz ps) := bH (vb h) fun σ H Q hq0 => by
 obtain ⟨F, R, σD, d, r, ec, k⟩ := hq0;unfold iz at ec;rcases h1 : j0 ps σD with _ | ds
 ·rw [h1] at ec; cases ec
 ·rw [h1] at ec; simp only [bind_some] at ec
  split at ec
  ·rename_i hz
   cases ec;refine ⟨F, R, σD, ds, r, h1, fun F1 H1 vs g1 b1 => ?_⟩;obtain ⟨L, ol⟩ := OwL.ofBor b1;refine ⟨by rw [ol.length]; exact hz, fun p hp => ?_⟩;have nF : ∀ c, F1 c -> c ≠ p := fun c fc z => by
    obtain ⟨o, h⟩ := g1.dm r.g.dom c fc;rw [z, hp] at h; cases h
   have gr : Grow F1 H1 F1 (bq H1 p (.lst vs)) := ⟨fun c fc => ⟨fc, bL (nF c fc)⟩, fun c o e => by rw [bL (dG e hp)]; exact e, fun c fc => .inl fc, fun dm c fc => by rw [bL (nF c fc)]; exact dm c fc⟩;refine k F1 _ _ (g1.trans gr) ⟨p :: L, ?_⟩;simp only [Ow];exact ⟨p, vs, L, rfl, cW, ol.mono gr.x fun c hc => by
    obtain ⟨o, e⟩ := ol.dom c hc;rw [bL (dG e hp)], rfl⟩
  ·cases ec
end
theorem zc {p : DP} {σ σ' : aZ} {d : D} (h : dS p σ = some (d, σ')) : p σ = some d /\ σ' = σ /\ ∃ w, d.sc = some w := by
 unfold dS at h;rcases hp : p σ with _ | x
 ·rw [hp] at h; cases h
 ·rw [hp] at h
  simp only [bind_some] at h;rcases hs : x.sc with _ | w
  ·rw [hs] at h; cases h
  ·rw [hs] at h; cases h
   exact ⟨rfl, rfl, w, hs⟩
theorem cA {X : Cx} {a b : Expr} {p q : DP} {pos : Pos} {op : CmpOp} {g : D -> D -> Option D} (o : dB X (compareOp op) g) (ha : QB X a p) (hb : QB X b q) (hm : behindInMarks op b = false) : QT X (.Compare a [op] [b] pos) (ba (dS (aU g p q))) :=
 kc (lE o.run ha hb hm) fun σ H Q hq0 => by
  obtain ⟨F, R, σD, k, σD', r, ec, kk⟩ := hq0;obtain ⟨e1, e2, w, hw⟩ := zc (gR ec);subst e2;show kA _ _ _ σ H _;exact wg o ⟨F, R, _, _, r, e1, fun F' H' v g' b' => ⟨k, b'.bl, kk F' H' g'.x (r.grow g')⟩⟩
section
variable {X : Cx} {e tg elt iter : Expr} {ifs : List Expr} {g : DG} {t : DT} {c : DE} {i : DI} {pos : Pos} {W : List Nat} {scope : Scope} {k : Nat}
theorem mS (N' : List Str) (hi : QI X tg iter i) (hg : ∀ cl s H fp ab, QG (cT X N' scope cl s H fp ab) tg g W) (ht : ∀ cl s H fp ab, tE (cT X N' scope cl s H fp ab) ifs t)
  (he : ∀ cl s H fp ab, QE (cT X N' scope cl s H fp ab) elt c) (hk : autoParam (N'.length - X.N.length = k) bj._auto_1) (hw : autoParam ((W.all fun i => decide (X.N.length <= i)) = true) bj._auto_1) (hc : autoParam (X.calm = true) bj._auto_1) (hkd : autoParam (scope.kind = .function) bj._auto_1) (T : autoParam (qb X.N N' scope.names X.env.kindOf = true) bj._auto_1) (hs : autoParam (∀ x, foldedSetIterable iter X.env x = pure x) kJ._auto_1) :
  QE X (.ListComp elt [⟨tg, iter, ifs, 0⟩] scope pos) (gZ k i g t c) := by
 subst hk;exact Bj hc (xM hkd T) hi hg ht he (fun j hj => by simpa using List.all_eq_true.mp hw j hj) hs
theorem Ap (ix : Nat) (N' : List Str) {y : Str} {py spos : Pos} (hN : X.N.Nodup) (hi : QI X tg iter i) (hg : ∀ cl s H fp ab, QG (cT X N' scope cl s H fp ab) tg g W) (ht : ∀ cl s H fp ab, tE (cT X N' scope cl s H fp ab) ifs t)
  (he : ∀ cl s H fp ab, QE (cT X N' scope cl s H fp ab) elt c) (hk : autoParam (N'.length - X.N.length = k) bj._auto_1) (hw : autoParam ((W.all fun i => decide (X.N.length <= i)) = true) bj._auto_1) (hc : autoParam (X.calm = true) bj._auto_1) (hkd : autoParam (scope.kind = .function) bj._auto_1) (T : autoParam (qb X.N N' scope.names X.env.kindOf = true) bj._auto_1)
  (hsw : autoParam (swapsWith (.ListComp elt [⟨tg, iter, ifs, 0⟩] scope pos) (some (.Name y py)) spos.line X.env = pure true) bj._auto_1)
  (hiN : autoParam (X.N[ix]? = some y) bj._auto_1) (hx : autoParam (nX X.env.scope y) xV._auto_1) (hs : autoParam (∀ x, foldedSetIterable iter X.env x = pure x) kJ._auto_1) (hf : autoParam (X.fn y = true \/ X.env.scope.names.lookup y = some .local) n0._auto_1) :
  QS X (.Assign [.Name y py] (.ListComp elt [⟨tg, iter, ifs, 0⟩] scope pos) spos) (bC ix (gZ k i g t c)) [ix] := by
 subst hk;exact uT ix hN hc (xM hkd T) hi hg ht he (fun j hj => by simpa using List.all_eq_true.mp hw j hj) hsw hiN hx hs hf
end
section
variable {K : PySem.W.Frag} {F F' : Addr -> Prop} {H H' : Hp}
end
section
variable {X : Cx} {s : DS} {pos : Pos} {W' : List Nat} {body : List Stmt}
end
section
variable {X : Cx} {elt : Expr} {ifs : List Expr} {t : DT} {c : DE} {pos : Pos} {scope : Scope}
end
theorem Aq {K : PySem.W.Frag} {H : Hp} {a : Addr} {ns : List Int} {g : GF} {E : XK} (hg : ∃ d, g [.lst false (ns.map D.int)] = some (.bl true, [d])) (hS : fg K H a (ns.map V.int)) : dH K 1 g [.ref a] H (fun v _ => v = .bl true) E := by
 obtain ⟨d, hd⟩ := hg;refine ⟨rfl, fun c => ∃ o, H c = some o, [], [.lst false (ns.map D.int)], .bl true, [d], rfl, ⟨⟨[], ?_, List.nodup_nil, fun c hc => by cases hc⟩, fun c hc => hc⟩, hd, fun F' H' v x _ g => ?_⟩
 ·have ol : ∀ ms : List Int, OwL K (fun c => ∃ o, H c = some o) H (ms.map D.int) (ms.map V.int) [] := by
   intro ms
   induction ms with
   | nil => simp only [List.map_nil, OwL]; exact ⟨trivial, trivial⟩
   | cons m ms ih => simp only [List.map_cons, OwL]; exact ⟨_, _, [], [], rfl, Ow.of_sc rfl, ih, rfl⟩
  refine ⟨[], [], ?_, rfl, rfl⟩;simp only [Ow];refine ⟨a, ns.map V.int, rfl, ?_, ol ns, trivial⟩;rcases hS with h | h
  ·refine .inl ⟨?_, h⟩
   rcases h with h | ⟨o, h⟩ <;> exact ⟨_, h⟩
  ·exact .inr fun H' => .inr h
 ·exact (g.bor (d := .bl true) (v := v) (by simp)).bl
inductive PArg where
 | bo (i : Nat) | pu (p : DP) | bp (i : Nat) (q : DP)
section
variable {X : Cx} {e a b : Expr} {es : List Expr} {as : List PArg} {c : DE} {p q : DP} {pos : Pos}
variable {K : PySem.W.Frag} {F F' : Addr -> Prop} {H H' : Hp}
theorem bE {α β : Type} {o : Option α} {f : α -> β} {b : β} (h : o.map f = some b) : ∃ x, o = some x /\ f x = b := by
 cases o with
 | none => cases h
 | some x => exact ⟨x, rfl, Option.some.inj h⟩
end
section
variable {X : Cx} {e o a b : Expr} {es : List Expr} {p q : DP} {c c' : DE} {pos apos cpos : Pos} {i : Nat} {js : List DP}
noncomputable def ky (i : Nat) (c : DE) : DE := fun σ => match da σ i with
 | some (.lst _ _) => (c σ).bind fun p => match p.1, da p.2 i with
  | .lst true ys, some (.lst true xs) => if xs.length + ys.length <= sizeLine then some (.non, p.2.set i (some (.lst true (xs ++ ys)))) else none
  | _, _ => none
 | _ => none
theorem oj (i : Nat) {x : Str} {npos : Pos} (he : QE X e c) (hN : autoParam (X.N[i]? = some x) bj._auto_1) (hv : autoParam (kH X.env.scope x) mv._auto_1) (hd : autoParam ((x == ("__debug__" : Str)) = false) cz._auto_1)
  (hcd : autoParam ((x == ("__classdict__" : Str)) = false) cz._auto_1) (hbase : autoParam (attributeBase (.Name x npos) "extend" X.env (eval (.Name x npos) X.env) = eval (.Name x npos) X.env) bj._auto_1) (hfew : autoParam (((backTo cpos (starEach [e] X.env)).all (fun x => !x.1) && (backToKw cpos (keywordEach [] X.env)).all (fun x => x.1.isSome)
   && decide (([e] : List Expr).length + ([] : List Keyword).length + (if ([] : List Keyword).isEmpty then 0 else 1) < 30)) = true) bj._auto_1) (hline : autoParam ((apos.endLine == cpos.line) = true) bj._auto_1)
  (hst : autoParam (starEach [e] X.env = (false, eval e X.env) :: starEach [] X.env) bj._auto_1) : QE X (.Call (.Attribute (.Name x npos) "extend" apos) [e] [] cpos) (ky i c) :=
 bH (xz PySem.F.plainAttrs_list PySem.F.slot_list_extend PySem.F.type_list_extend vi (fY hN hv hd hcd) (eB he fZ hst) hbase hfew hline hst rfl) fun σ H Q hq0 => by
  obtain ⟨F, R, σD, d, σD', r, ec, k⟩ := hq0;unfold ky at ec;split at ec
  ·rename_i own ys0 h0
   obtain ⟨v0, hv0, b0⟩ := r.get (cG h0);obtain ⟨a0, vs0, rfl, sq0, _⟩ := b0.lst;rcases h1 : c σD with _ | ⟨y, σ1⟩
   ·rw [h1] at ec; cases ec
   ·rw [h1] at ec; simp only [bind_some] at ec
    split at ec
    ·rename_i _ _ ys xs h2
     split at ec
     ·rename_i hz
      cases ec;refine ⟨_, hv0, .inl ⟨rfl, vs0, sq0⟩, F, R, σD, _, σ1, r, h1, fun F1 H1 v x1 r1 => ?_⟩;obtain ⟨b, zs, rfl, hb, hlb, r1'⟩ := r1.openN;obtain ⟨v1, hv1, r2⟩ := r1'.take (cG h2);rw [hv0] at hv1; cases hv1;have r2' : Rel X.K F1 H1 (σ1.set i none) σ ((.lst true xs, .ref a0) :: (ys.zip zs ++ R)) := by
       have := (r2.perm (.swap _ _ _)).pop
       exact this
      obtain ⟨l, vs, lc, hl, hlen, upd'⟩ := Rel.listAt (S := ys.zip zs) (js := []) (xs := xs) r2' rfl;cases lc;obtain ⟨r3, x3⟩ := upd' (xs ++ ys) (vs ++ zs) [] (by rw [List.zip_append hlen]; simp) (by simp [hlen, hlb]);refine ⟨_, b, vs, zs, rfl, rfl, hl, hb, by omega, ?_⟩;have r4 := (Rel.put (R := R) r3 hv0);rw [List.set_set] at r4;exact k F1 _ .non (x1.trans x3) (r4.scal rfl)
     ·cases ec
    ·cases ec
  ·cases ec
theorem tX {h : Heap} : ∀ {vs : List Value} {ps : List PyData} {as : List Addr}, ReadsAll h vs ps as -> ∀ v ∈ vs, ∃ p as', p ∈ ps /\ Reads h v p as' := by
 intro vs
 induction vs with
 | nil => intro ps as h v hv; cases hv
 | cons v vs ih =>
  intro ps as h v hv;cases h with
  | cons r rs =>
   rcases List.mem_cons.mp hv with rfl | hv
   ·exact ⟨_, _, List.mem_cons_self, r⟩
   ·obtain ⟨p, as', hp, h⟩ := ih rs v hv
    exact ⟨p, as', List.mem_cons_of_mem _ hp, h⟩
end
section
variable {X : Cx} {e o a b : Expr} {es : List Expr} {p q : DP} {c c' : DE} {pos apos cpos : Pos} {i : Nat} {js : List DP}
theorem uv : CallR X (.type "list") (fun vs H Q => ∃ a xs, vs = [.ref a] /\ fg X.K H a xs /\ ∀ p, H p = none -> Q (.ref p) (bq H p (.lst xs))) := by
 rintro ab s σ H vs us Q I rv ⟨a, xs, e, sq, q⟩;subst e;obtain ⟨u, rfl, ru⟩ := gD rv;cases ru;obtain ⟨its, r, ⟨o, n, hg, hc, hsl, hd⟩, hz⟩ := I.list sq;refine call_list_seq a (.inl rfl) hg hc hd (fun h' c' hk hn => ?_) (by rw [List.size_toArray, <- r.length]; exact hz);exact ⟨.ref s.heap.objs.size, _, I.laid (o := .lst xs) hk (Nat.le_refl _) ⟨hz, its, c', r, hn⟩, rfl, q _ I.fresh⟩
end
end DD
namespace DD
open PySem PySem.Spec PySem.Calls PyProof.Rows L2 PySem.W PySem.Builtin PySem.Builtin.Str
section
variable {X : Cx} {apos cpos : Pos}
end
end DD
namespace DD
open PySem PySem.Spec PyProof.Rows L2
section
variable {X : Cx} {e o a b : Expr} {es : List Expr} {p q : DP} {c c' : DE} {pos apos cpos : Pos} {i : Nat} {js : List DP}
noncomputable def qV (x y : D) : Option Bool := x.py.bind fun q => y.py.bind fun p => match p with
 | .list ps => if (ps.all fun r => kf r q) = true then some (ps.any fun r => PyData.eqv r q) else none
 | _ => none
noncomputable def sQ (x y : D) : Option D := (qV x y).map .bl
noncomputable def oO (x y : D) : Option D := (qV x y).map fun b => .bl (!b)
theorem rR {h : Heap} {q : PyData} {e : Value -> Bool} (he : ∀ v p as, Reads h v p as -> e v = PyData.eqv p q) : ∀ {vs : List Value} {ps : List PyData} {as : List Addr}, ReadsAll h vs ps as -> vs.any e = ps.any fun r => PyData.eqv r q
 | _, _, _, .nil => rfl
 | _, _, _, .cons r rs => by rw [List.any_cons, List.any_cons, rR he rs, he _ _ _ r]
theorem wR {x y : D} {t : Bool} (h : qV x y = some t) : ∃ q ps, x.py = some q /\ y.py = some (.list ps) /\ (∀ r ∈ ps, r.canLay0 = true /\ q.canLay0 = true /\ min r.depth q.depth <= 50) /\ t = ps.any fun r => PyData.eqv r q := by
 unfold qV at h;rcases h1 : x.py with _ | p
 ·rw [h1] at h; cases h
 ·rw [h1] at h; simp only [bind_some] at h
  rcases h2 : y.py with _ | q
  ·rw [h2] at h; cases h
  ·rw [h2] at h; simp only [bind_some] at h
   split at h
   ·rename_i ps
    split at h
    ·rename_i hk
     cases h;refine ⟨p, ps, rfl, rfl, fun r hr => ?_, rfl⟩
     have := List.all_eq_true.mp hk r hr
     simp only [kf, Bool.and_eq_true, decide_eq_true_eq] at this;exact ⟨this.1.1, this.1.2, this.2⟩
    ·cases h
   ·cases h
theorem sP {ab : List (Addr × Obj)} {s : Shared} {σ : St} {H : Hp} {F : Addr -> Prop} {dx dy : D} {x y : V} {v u : Value} {t : Bool} (hu : X.A.units + 64 < cLine) (I : L2.Inv X ab σ H s) (b1 : Bor X.K F H dx x) (b2 : Bor X.K F H dy y)
  (rx : RelV x v) (ry : RelV y u) (h : qV dx dy = some t) : ∃ l items, u = .ref l /\ s.heap.IsList l items /\ ∃ e : Value -> Bool, (∀ z ∈ items, SeqAt.EqAt X.A.in1 s z v (e z)) /\ items.any e = t := by
 obtain ⟨r, ps, e1, e2, hok, rfl⟩ := wR h;obtain ⟨as, ra⟩ := b1.reads I e1 rx;obtain ⟨bs, rb⟩ := b2.reads I e2 ry;cases rb with
 | @list a o items n xs as' hg hc hdt rall =>
  classical
  refine ⟨a, items, rfl, ⟨o, hg, hc, n, hdt⟩, fun z => decide (∃ p as, Reads s.heap z p as /\ PyData.eqv p r = true), fun z hz => ?_, ?_⟩
  ·obtain ⟨pz, az, hpz, rz⟩ := tX rall z (by simpa using hz)
   obtain ⟨k1, k2, k3⟩ := hok pz hpz;have hd : decide (∃ p as, Reads s.heap z p as /\ PyData.eqv p r = true) = PyData.eqv pz r := by
    rcases he : PyData.eqv pz r with _ | _
    ·refine decide_eq_false ?_
     rintro ⟨p', as', r', e'⟩
     have := (PySem.SeqAt.Reads.unique pz p' z az as' k1 rz r')
     rw [<- this, he] at e'; cases e'
    ·exact decide_eq_true ⟨pz, az, rz, he⟩
   dsimp only;rw [hd];exact PySem.SeqAt.eqAt_reads pz r _ s z v az as rz ra k1 k2 (by
    simp only [Around.in1_units];omega)
  ·have hc := rR (q := r) (e := fun z => decide (∃ p as, Reads s.heap z p as /\ PyData.eqv p r = true)) (h := s.heap) (vs := items.toList) (ps := ps) ?_ rall
   ·rw [<- hc]; simp
   ·intro v p as rv
    rcases he : PyData.eqv p r with _ | _
    ·refine decide_eq_false ?_
     rintro ⟨p', as', r', e'⟩
     have := (PySem.Reads.unique rv p' as' r').1
     rw [<- this, he] at e'; cases e'
    ·exact decide_eq_true ⟨p, as, rv, he⟩
theorem wA (hu : X.A.units + 64 < cLine) : dB X (compareOp .In) sQ := by
 refine ⟨fun ab s σ H x y v u Q I rx ry pz => ?_, fun x y d h => ?_⟩
 ·obtain ⟨F, dx, dy, d, w, b1, b2, eg, hw, q⟩ := pz
  obtain ⟨t, et, rfl⟩ := bE eg;cases hw;obtain ⟨l, items, rfl, hl, e, he, rfl⟩ := sP hu I b1 b2 rx ry et;exact SeqAt.in_listAt e hl he ⟨.bl _, H, I, rfl, q⟩
 ·obtain ⟨t, _, rfl⟩ := bE h
  exact ⟨_, rfl⟩
theorem ud (hu : X.A.units + 64 < cLine) : dB X (compareOp .NotIn) oO := by
 refine ⟨fun ab s σ H x y v u Q I rx ry pz => ?_, fun x y d h => ?_⟩
 ·obtain ⟨F, dx, dy, d, w, b1, b2, eg, hw, q⟩ := pz
  obtain ⟨t, et, rfl⟩ := bE eg;cases hw;obtain ⟨l, items, rfl, hl, e, he, rfl⟩ := sP hu I b1 b2 rx ry et;exact SeqAt.notIn_listAt e hl he ⟨.bl _, H, I, rfl, q⟩
 ·obtain ⟨t, _, rfl⟩ := bE h
  exact ⟨_, rfl⟩
end
section
variable {X : Cx} {e a b : Expr} {lo hi : Option Expr} {pl ph : Option DP} {p q : DP} {c c' : DE} {pos p2 : Pos} {i : Nat}
end
section
variable {X : Cx} {e tg elt iter : Expr} {ifs : List Expr} {g : DG} {t : DT} {c : DE} {i : DI} {pos : Pos} {W : List Nat} {N' : List Str} {scope : Scope}
end
section
variable {X : Cx} {elt tg : Expr} {ifs : List Expr} {g : DG} {t : DT} {c : DE} {pos : Pos} {W : List Nat} {scope : Scope} {k : Nat} {elts : List Expr} {x1 : Nat} {tpos p1 pos1 npos npos2 : Pos}
end
noncomputable def iC (g : D -> D -> Option D) (c : DE) (q : DP) : DE := fun σ => (c σ).bind fun p => (q p.2).bind fun y => (g p.1 y).map fun d => (d, p.2)
section
variable {X : Cx} {a b : Expr} {c : DE} {p q : DP} {pos : Pos}
theorem vN {g : D -> D -> Option D} {σ σ' : aZ} {d : D} (h : iC g c q σ = some (d, σ')) : ∃ x y, c σ = some (x, σ') /\ q σ' = some y /\ g x y = some d := by
 unfold iC at h;rcases h1 : c σ with _ | ⟨x, σ1⟩
 ·rw [h1] at h; cases h
 ·rw [h1] at h; simp only [bind_some] at h
  rcases h2 : q σ1 with _ | y
  ·rw [h2] at h; cases h
  ·rw [h2] at h; simp only [bind_some] at h
   obtain ⟨z, e, e2⟩ := cH h;cases e2;exact ⟨x, y, rfl, h2, e⟩
theorem zB {f : Value -> Value -> Sem Value} {g : D -> D -> Option D} (o : dB X f g) {σ : St} {H : Hp} {Q : VK} (h : rE X.K (iC g c q) σ H Q) :
  kA (fun x y H Q => ∃ F dx dy d w, Bor X.K F H dx x /\ Bor X.K F H dy y /\ g dx dy = some d /\ d.sc = some w /\ Q w H) (rE X.K c) (rB X.K q) σ H Q := by
 obtain ⟨F, R, σD, d, σD', r, ec, k⟩ := h;obtain ⟨x, y, e1, e2, eg⟩ := vN ec;obtain ⟨w, hw⟩ := o.sc _ _ _ eg;refine ⟨F, R, σD, x, σD', r, e1, fun F1 H1 v x1 r1 => ?_⟩;refine ⟨F1, _, σD', y, r1, e2, fun F2 H2 u g2 b2 => ?_⟩;exact ⟨F2, x, y, d, w, (r1.grow g2).bor (by simp), b2, eg, hw, k F2 H2 w (x1.trans g2.x) ((r1.grow g2).pop.scal hw)⟩
theorem oo {op : CmpOp} {g : D -> D -> Option D} (o : dB X (compareOp op) g) (ha : QE X a c) (hb : QB X b q) (hm : behindInMarks op b = false) : QE X (.Compare a [op] [b] pos) (iC g c q) :=
 bH (ot o.run ha hb hm) fun _ _ _ h => zB o h
theorem sE {op : CmpOp} {g : D -> D -> Option D} (o : dB X (compareOp op) g) (ha : QE X a c) (hb : QB X b q) (hm : behindInMarks op b = false) : QT X (.Compare a [op] [b] pos) (ba (iC g c q)) :=
 kc (lE o.run ha hb hm) fun σ H Q hq0 => by
  obtain ⟨F, R, σD, k, σD', r, ec, kk⟩ := hq0;show kA _ _ _ σ H _;exact zB o ⟨F, R, σD, _, σD', r, gR ec, fun F' H' v x r' => ⟨k, (r'.bor (by simp)).bl, kk F' H' x r'.pop⟩⟩
end
end DD
namespace L2
open PySem PySem.Spec PyProof.Rows
end L2
namespace DD
open PySem PySem.Spec PyProof.Rows L2
section
variable {X : Cx} {a b o e : Expr} {c c' : DE} {p p1 pos1 : Pos} {elts : List Expr} {x1 : Nat} {tpos pos : Pos}
end
section
variable {X : Cx} {elt tg iter : Expr} {ifs : List Expr} {g : DG} {t : DT} {c : DE} {pos : Pos} {W : List Nat} {scope : Scope} {k : Nat} {elts : List Expr} {x1 : Nat} {tpos p1 pos1 npos npos2 : Pos}
end
end DD
namespace L2
open PySem PySem.Spec PyProof.Rows
section
variable {prog : Program} {w : World} {A : Around} {E : Value -> Shared -> Prop} {s : Shared}
end
end L2
namespace DD
open PySem PySem.Spec PyProof.Rows L2
section
variable {X : Cx} {a b o e : Expr} {c c' : DE} {p p1 pos1 kp cp : Pos} {elts : List Expr} {x1 : Nat} {tpos pos : Pos} {kk : Nat}
end
section
variable {X : Cx} {elt : Expr} {ifs : List Expr} {g : DG} {t : DT} {c : DE} {pos : Pos} {W : List Nat} {scope : Scope} {k : Nat} {elts : List Expr} {x1 : Nat} {tpos p1 pos1 npos kp cp : Pos} {kk : Nat}
end
end DD
namespace L2
open PySem PySem.Spec PyProof.Rows
section
variable {prog : Program} {w : World} {A : Around} {E : Value -> Shared -> Prop} {s : Shared}
end
section
variable {X : Cx} {pos : Pos}
end
end L2
namespace DD
open PySem PySem.Spec PyProof.Rows L2
section
variable {X : Cx} {e tg a : Expr} {ts : List Expr} {g : DG} {gs : pT} {pos p1 p2 pos2 : Pos} {W W' : List Nat} {c : DE} {apos cpos : Pos}
end
section
variable {X : Cx} {e o a b : Expr} {es : List Expr} {p q : DP} {c c' : DE} {pos apos cpos : Pos} {i : Nat} {js : List DP}
end
end DD
namespace L2
open PySem PySem.Spec PyProof.Rows
section
variable {X : Cx} {tg : Expr} {pos : Pos}
end
end L2
namespace DD
open PySem PySem.Spec PyProof.Rows L2
section
variable {X : Cx} {tg e a b c : Expr} {ca : DA} {p1 pos1 : Pos}
end
end DD
namespace L2
open PySem PySem.Spec PyProof.Rows
section
variable {X : Cx} {pos : Pos}
end
end L2
namespace DD
open PySem PySem.Spec PyProof.Rows L2
section
variable {X : Cx} {a b c : Expr} {ca : DA} {p1 p2 pos pos2 : Pos}
end
end DD
namespace L2
open PySem PySem.Spec PyProof.Rows
theorem nr (n : Nat) : sliceRange ((n : Int) - 1) (-1) (-1) = (List.range n).map fun k => n - 1 - k := by
 unfold sliceRange;rcases n with _ | n
 ·rfl
 ·have e : ((n + 1 : Nat) : Int) - 1 - -1 - -1 - 1 = ((n + 1 : Nat) : Int) := by omega
  simp only [show ¬ ((-1 : Int) > 0) by decide, if_false, show ((n + 1 : Nat) : Int) - 1 > -1 by omega, if_true, e, Int.neg_neg, Int.ediv_one, Int.toNat_natCast];apply List.map_congr_left;intro k hk;rw [List.mem_range] at hk;omega
theorem wn {α : Type} (m : List α) : (List.range m.length).filterMap (fun k => m[k]?) = m := by
 induction m with
 | nil => rfl
 | cons a m ih =>
  rw [List.length_cons, List.range_succ_eq_map, List.filterMap_cons];simp only [List.getElem?_cons_zero, List.filterMap_map];congr 1
theorem t7 {α β : Type} {f g : α -> Option β} (l : List α) (h : ∀ x ∈ l, f x = g x) : l.filterMap f = l.filterMap g := by
 induction l with
 | nil => rfl
 | cons a l ih => rw [List.filterMap_cons, List.filterMap_cons, h a (by simp), ih fun x hx => h x (by simp [hx])]
theorem u8 {α : Type} (l : List α) : ((List.range l.length).map fun k => l.length - 1 - k).filterMap (l[·]?) = l.reverse := by
 rw [List.filterMap_map];have h : (List.range l.length).filterMap ((fun x => l[x]?) ∘ fun k => l.length - 1 - k) = (List.range l.length).filterMap (fun k => l.reverse[k]?) := by
  apply t7;intro k hk;rw [List.mem_range] at hk;simp only [Function.comp, List.getElem?_reverse hk]
 rw [h];have h3 := wn l.reverse;rw [List.length_reverse] at h3;rw [h3]
theorem oh (its : List Value) : slicePick its.toArray none none (some (-1)) = its.reverse.toArray := by
 have e : sliceBounds none none (some (-1)) its.toArray.size = ((its.length : Int) - 1, -1, -1) := by
  simp [sliceBounds]
 unfold slicePick;rw [e];simp only [nr, List.getElem?_toArray];rw [u8]
section
variable {X : Cx} {e st : Expr} {te ts : TE} {pos p2 : Pos}
noncomputable def zq (K : PySem.W.Frag) (te ts : TE) : TE := fun σ H Q => te σ H fun x H1 => ts σ H1 fun y H2 => y = .int (-1) /\ ∃ a xs, x = .ref a /\ fg K H2 a xs /\ ∀ p, H2 p = none -> Q (.ref p) (bq H2 p (.lst xs.reverse))
theorem wr (he : PE X e te) (hs : PE X st ts) : PE X (.Subscript e (.Slice none none (some st) p2) pos) (zq X.K te ts) := by
 intro ab s σ H Q I h;refine Subscript_ (bQ (he ab s σ H _ I h) fun v s1 hq => ?_);obtain ⟨x, H1, I1, r1, q1⟩ := hq;refine wpAny_Slice ?_;rw [evalPart_none];refine wpAny_pure (wpAny_pure ?_);rw [evalPart_some];refine bQ (hs ab s1 σ H1 _ I1 q1) fun vk s2 hq => ?_
 obtain ⟨y, H2, I2, r2, ey, a, xs, ex, sq, q⟩ := hq;subst ey; subst ex;obtain ⟨t, rfl⟩ := r2;cases r1;have I4 : Inv X ab σ H2 { s2 with heap := s2.heap.push { cls := .type "slice", data := .fields #[.none, .none, .int (-1) t] } } := I2.kept (t' := s2.toks) fun b ob q => Heap.get?_push_of_some _ q
 obtain ⟨its, r, ht, hz⟩ := I4.list sq;have hlen := r.length;show wpAny (model X.prog X.w) X.A (subscriptTail e (.Slice none none (some st) p2) (.ref a) (.ref s2.heap.objs.size)) (EP X ab σ Q) X.xe { s2 with heap := s2.heap.push { cls := .type "slice", data := .fields #[.none, .none, .int (-1) t] } };refine tail_any (ops := [.ref a, .ref s2.heap.objs.size]) ht.isList.typeIs slot_list_getitem.lookup ?_ (by with_unfolding_all rfl);refine wpAny_getItem_list_slice ht.isList (Heap.IsSliceOf.new ..) .none .none (.int (-1) t) dC ?_ (by rw [List.size_toArray] <;> omega);rw [oh];refine ⟨.ref _, _, I4.laid (t' := s2.toks) (o := .lst xs.reverse) (fun b ob q => Heap.get?_push_of_some _ q) (Nat.le_refl _) ?_, rfl, q _ (I4.hok.fresh (Nat.le_refl _))⟩;exact ⟨by rw [List.length_reverse]; exact hz, _, 0, r.reverse, Heap.get?_push_size _ rfl⟩
end
end L2
namespace DD
open PySem PySem.Spec PyProof.Rows L2
theorem z6 {K : PySem.W.Frag} {F : Addr -> Prop} {H : Hp} : ∀ {xs : List D} {vs : List V}, OwL K F H xs vs [] -> OwL K F H xs.reverse vs.reverse [] := by
 intro xs
 induction xs with
 | nil => intro vs h; simp only [OwL] at h; rw [h.1]; simp [OwL]
 | cons x xs ih =>
  intro vs h;simp only [OwL] at h;obtain ⟨v, ws, L1, L2, rfl, h1, h2, e⟩ := h;obtain ⟨rfl, rfl⟩ := List.append_eq_nil_iff.mp e.symm;rw [List.reverse_cons, List.reverse_cons];refine OwL.app (ih h2) ?_;simp only [OwL];exact ⟨v, [], [], [], rfl, h1, ⟨rfl, rfl⟩, rfl⟩
section
variable {X : Cx} {e st : Expr} {p q : DP} {pos p2 : Pos}
end
end DD
namespace PySem
open Sem (wp)
namespace F
end F
section
variable {prog : Program} {w : World} {A : Around} {E : Value -> Shared -> Prop} {s : Shared}
end
section
variable {prog : Program} {w : World} {A : Around} {E : Value -> Shared -> Prop} {s : Shared}
end
end PySem
namespace L2
open PySem PySem.Spec PyProof.Rows
end L2
namespace DD
open PySem PySem.Spec PyProof.Rows L2
theorem sR : ∀ xs : List D, (D.fzL xs).length = xs.length := by
 intro xs
 induction xs with
 | nil => rfl
 | cons x xs ih => simp only [D.fzL, List.length_cons, ih]
section
variable {X : Cx} {a b c d : Expr} {ca cb cc cd : DE} {p1 pos1 : Pos} {elts : List Expr} {x1 : Nat} {tpos : Pos}
end
end DD
namespace PySem.AutoSeq1
end PySem.AutoSeq1
namespace L2
open PySem PySem.Spec PyProof.Rows
section
variable {X : Cx}
end
end L2
namespace DD
open PySem PySem.Spec PyProof.Rows L2
section
variable {X : Cx} {e : Expr} {c : DE} {apos cpos : Pos}
end
end DD
namespace TT
open PySem L2 DD
noncomputable abbrev Rl (α : Type) := α -> D -> Prop
structure Sl (S : Type) where
 {α : Type}
 get : S -> α
 r : Rl α
noncomputable abbrev bc (S : Type) := List (Option (Sl S))
section
variable {S : Type} {α β γ δ ρ : Type}
noncomputable def On : Option (Sl S) -> S -> Option D -> Prop
 | none, _, _ => True
 | some l, s, o => ∃ d, o = some d /\ l.r (l.get s) d
noncomputable def Sat : bc S -> S -> aZ -> Prop
 | [], _, [] => True
 | a :: Z, s, x :: σ => On a s x /\ Sat Z s σ
 | _, _, _ => False
theorem Sat.len {s : S} : ∀ {Z : bc S} {σ : aZ}, Sat Z s σ -> σ.length = Z.length := by
 intro Z
 induction Z with
 | nil =>
  intro σ h;cases σ with
  | nil => rfl
  | cons _ _ => exact h.elim
 | cons a Z ih =>
  intro σ h;cases σ with
  | nil => exact h.elim
  | cons x σ => simp [ih h.2]
theorem Sat.get {s : S} {l : Sl S} : ∀ {Z : bc S} {σ : aZ} {i : Nat}, Sat Z s σ -> Z[i]? = some (some l) -> ∃ d, da σ i = some d /\ l.r (l.get s) d := by
 intro Z
 induction Z with
 | nil => intro σ i _ e; simp at e
 | cons a Z ih =>
  intro σ i h e;cases σ with
  | nil => exact h.elim
  | cons x σ =>
   cases i with
   | zero =>
    simp at e; subst e;obtain ⟨d, e1, hd⟩ := h.1;subst e1;exact ⟨d, rfl, hd⟩
   | succ i =>
    obtain ⟨d, h1, h2⟩ := ih (i := i) h.2 (by simpa using e);exact ⟨d, by simpa [da] using h1, h2⟩
theorem Sat.set {s : S} {l : Option (Sl S)} {o : Option D} : ∀ {Z : bc S} {σ : aZ} {i : Nat}, Sat Z s σ -> On l s o -> Sat (Z.set i l) s (σ.set i o) := by
 intro Z
 induction Z with
 | nil =>
  intro σ i h k;cases σ with
  | nil => exact h
  | cons _ _ => exact h.elim
 | cons a Z ih =>
  intro σ i h k;cases σ with
  | nil => exact h.elim
  | cons x σ =>
   cases i with
   | zero => exact ⟨k, h.2⟩
   | succ i => exact ⟨h.1, ih h.2 k⟩
theorem Sat.setn {Z : bc S} {s : S} {σ : aZ} {i : Nat} {o : Option D} (h : Sat Z s σ) : Sat (Z.set i none) s (σ.set i o) := h.set trivial
theorem On.setn {s : S} : ∀ {Z : bc S} {σ : aZ} {i : Nat}, Sat Z s σ -> Sat (Z.set i none) s σ := by
 intro Z
 induction Z with
 | nil => intro σ i h; exact h
 | cons a Z ih =>
  intro σ i h;cases σ with
  | nil => exact h.elim
  | cons x σ =>
   cases i with
   | zero => exact ⟨trivial, h.2⟩
   | succ i => exact ⟨h.1, ih h.2⟩
inductive Fr (u : S -> S) : bc S -> Prop
 | nil : Fr u []
 | non {Z} : Fr u Z -> Fr u (none :: Z)
 | som {l : Sl S} {Z} : (∀ s d, l.r (l.get s) d -> l.r (l.get (u s)) d) -> Fr u Z -> Fr u (some l :: Z)
theorem Fr.sat {u : S -> S} {s : S} : ∀ {Z : bc S} {σ : aZ}, Fr u Z -> Sat Z s σ -> Sat Z (u s) σ := by
 intro Z σ l
 induction l generalizing σ with
 | nil => intro h; cases σ <;> exact h
 | non l ih =>
  intro h;cases σ with
  | nil => exact h.elim
  | cons x σ => exact ⟨trivial, ih h.2⟩
 | som f1 l ih =>
  intro h;cases σ with
  | nil => exact h.elim
  | cons x σ =>
   obtain ⟨d, e, hd⟩ := h.1;exact ⟨⟨d, e, f1 s d hd⟩, ih h.2⟩
class Wk (r r' : Rl α) : Prop where
 w : ∀ a d, r a d -> r' a d
instance (priority := high) Wk.refl {r : Rl α} : Wk r r := ⟨fun _ _ h => h⟩
inductive Le : bc S -> bc S -> Prop
 | nil : Le [] []
 | non {a} {Z Z'} : Le Z Z' -> Le (a :: Z) (none :: Z')
 | som {α : Type} {g : S -> α} {r r' : Rl α} {Z Z'} : Wk r r' -> Le Z Z' -> Le (some ⟨g, r⟩ :: Z) (some ⟨g, r'⟩ :: Z')
theorem Le.sat {s : S} : ∀ {Z Z' : bc S} {σ : aZ}, Le Z Z' -> Sat Z s σ -> Sat Z' s σ := by
 intro Z Z' σ l
 induction l generalizing σ with
 | nil => intro h; exact h
 | non l ih =>
  intro h;cases σ with
  | nil => exact h.elim
  | cons x σ => exact ⟨trivial, ih h.2⟩
 | som w l ih =>
  intro h;cases σ with
  | nil => exact h.elim
  | cons x σ =>
   obtain ⟨d, e, hd⟩ := h.1;exact ⟨⟨d, e, w.w _ _ hd⟩, ih h.2⟩
theorem Le.refl : ∀ {Z : bc S}, Le Z Z
 | [] => .nil
 | none :: _ => .non Le.refl
 | some ⟨_, _⟩ :: _ => .som Wk.refl Le.refl
noncomputable def gE (n : Nat) : Bool := decide (n <= sizeLine)
noncomputable def xC (n : Nat) : Bool := decide (n < sizeLine)
theorem jL {n : Nat} (h : gE n = true) : n <= sizeLine := of_decide_eq_true h
theorem vm {n : Nat} (h : xC n = true) : n < sizeLine := of_decide_eq_true h
noncomputable def rI : Rl Int := fun i d => d = .int i
noncomputable def rB : Rl Bool := fun b d => d = .bl b
noncomputable def rS : Rl Str := fun x d => d = .str x
noncomputable def rN : Rl Unit := fun _ d => d = .non
noncomputable def rA : Rl Unit := fun _ _ => True
noncomputable def BT (t : String) : Rl Unit := fun _ d => d = .ty t
inductive All2 (r : Rl α) : List α -> List D -> Prop
 | nil : All2 r [] []
 | cons {a d as ds} : r a d -> All2 r as ds -> All2 r (a :: as) (d :: ds)
noncomputable def rL (r : Rl α) : Rl (List α) := fun xs d => ∃ ds, d = .lst true ds /\ All2 r xs ds
noncomputable def rM (r : Rl α) : Rl (List α) := fun xs d => ∃ o ds, d = .lst o ds /\ All2 r xs ds
noncomputable def gX (r : Rl α) (q : Rl β) : Rl (α × β) := fun p d => ∃ x y, d = .tup [x, y] /\ r p.1 x /\ q p.2 y
noncomputable def aa (r : Rl α) (q : Rl β) (t : Rl γ) : Rl (α × β × γ) := fun p d => ∃ x y z, d = .tup [x, y, z] /\ r p.1 x /\ q p.2.1 y /\ t p.2.2 z
noncomputable def xw (r : Rl α) (q : Rl β) (t : Rl γ) (u : Rl δ) : Rl (α × β × γ × δ) := fun p d => ∃ x y z w, d = .tup [x, y, z, w] /\ r p.1 x /\ q p.2.1 y /\ t p.2.2.1 z /\ u p.2.2.2 w
noncomputable def rP : Rl PyData := fun p d => d.py = some p /\ d.fz = d
theorem All2.len {r : Rl α} {as : List α} {ds : List D} (h : All2 r as ds) : as.length = ds.length := by
 induction h with
 | nil => rfl
 | cons _ _ ih => simp [ih]
theorem All2.mono {r r' : Rl α} (k : ∀ a d, r a d -> r' a d) {as : List α} {ds : List D} (h : All2 r as ds) : All2 r' as ds := by
 induction h with
 | nil => exact .nil
 | cons a _ ih => exact .cons (k _ _ a) ih
theorem All2.get {r : Rl α} {as : List α} {ds : List D} {i : Nat} {a : α} (h : All2 r as ds) : as[i]? = some a -> ∃ d, ds[i]? = some d /\ r a d := by
 induction h generalizing i with
 | nil => intro e; simp at e
 | cons h0 _ ih =>
  intro e;cases i with
  | zero => simp at e; subst e; exact ⟨_, rfl, h0⟩
  | succ i => simpa using ih (i := i) (by simpa using e)
theorem All2.set {r : Rl α} {as : List α} {ds : List D} {i : Nat} {a : α} {d : D} (h : All2 r as ds) (k : r a d) : All2 r (as.set i a) (ds.set i d) := by
 induction h generalizing i with
 | nil => exact .nil
 | cons h0 h ih =>
  cases i with
  | zero => exact .cons k h
  | succ i => exact .cons h0 ih
theorem All2.append {r : Rl α} {as bs : List α} {ds es : List D} (h : All2 r as ds) (k : All2 r bs es) : All2 r (as ++ bs) (ds ++ es) := by
 induction h with
 | nil => exact k
 | cons h0 _ ih => exact .cons h0 ih
theorem All2.drop {r : Rl α} : ∀ {as : List α} {ds : List D} (n : Nat), All2 r as ds -> All2 r (as.drop n) (ds.drop n)
 | _, _, 0, h => h
 | _, _, _ + 1, .nil => .nil
 | _, _, n + 1, .cons _ h => h.drop n
theorem All2.take {r : Rl α} : ∀ {as : List α} {ds : List D} (n : Nat), All2 r as ds -> All2 r (as.take n) (ds.take n)
 | _, _, 0, h => .nil
 | _, _, _ + 1, .nil => .nil
 | _, _, n + 1, .cons k h => .cons k (h.take n)
theorem All2.ofMap {r : Rl α} {f : β -> α} {g : β -> D} (k : ∀ b, r (f b) (g b)) : ∀ bs : List β, All2 r (bs.map f) (bs.map g)
 | [] => .nil
 | b :: bs => .cons (k b) (All2.ofMap k bs)
theorem uR : ∀ ns : List Int, All2 rI ns (ns.map D.int)
 | [] => .nil
 | _ :: ns => .cons rfl (uR ns)
class Fz (r : Rl α) (r' : outParam (Rl α)) : Prop where
 f : ∀ a d, r a d -> r' a d.fz
theorem All2.fz {r r' : Rl α} (k : ∀ a d, r a d -> r' a d.fz) {as : List α} {ds : List D} (h : All2 r as ds) : All2 r' as (D.fzL ds) := by
 induction h with
 | nil => exact .nil
 | cons a _ ih => exact .cons (k _ _ a) ih
instance : Fz rI rI := ⟨fun _ _ h => by cases h; rfl⟩
instance {r r' : Rl α} [k : Fz r r'] : Fz (rL r) (rM r') := ⟨fun _ _ ⟨ds, e, h⟩ => ⟨false, D.fzL ds, by rw [e, D.fz], h.fz k.f⟩⟩
instance {r r' : Rl α} [k : Fz r r'] : Fz (rM r) (rM r') := ⟨fun _ _ ⟨o, ds, e, h⟩ => ⟨false, D.fzL ds, by rw [e, D.fz], h.fz k.f⟩⟩
instance {r r' : Rl α} {q q' : Rl β} {t t' : Rl γ} [k : Fz r r'] [l : Fz q q'] [m : Fz t t'] : Fz (aa r q t) (aa r' q' t') := ⟨fun _ _ ⟨x, y, z, e, h1, h2, h3⟩ => ⟨x.fz, y.fz, z.fz, by rw [e]; simp only [D.fz, D.fzL], k.f _ _ h1, l.f _ _ h2, m.f _ _ h3⟩⟩
instance {r r' : Rl α} [k : Wk r r'] : Wk (rL r) (rM r') := ⟨fun _ _ ⟨ds, e, h⟩ => ⟨true, ds, e, h.mono k.w⟩⟩
instance {r r' : Rl α} {q q' : Rl β} {t t' : Rl γ} [k : Wk r r'] [l : Wk q q'] [m : Wk t t'] : Wk (aa r q t) (aa r' q' t') := ⟨fun _ _ ⟨x, y, z, e, h1, h2, h3⟩ => ⟨x, y, z, e, k.w _ _ h1, l.w _ _ h2, m.w _ _ h3⟩⟩
class Sc (r : Rl α) : Prop where
 s : ∀ a d, r a d -> ∃ w, d.sc = some w
instance : Sc rI := ⟨fun _ _ h => by cases h; exact ⟨_, rfl⟩⟩
instance : Sc rB := ⟨fun _ _ h => by cases h; exact ⟨_, rfl⟩⟩
instance : Sc rS := ⟨fun _ _ h => by cases h; exact ⟨_, rfl⟩⟩
class Ns (r : Rl α) : Prop where
 s : ∀ a d, r a d -> d.sc = none
instance {r : Rl α} : Ns (rL r) := ⟨fun _ _ hq0 => by obtain ⟨_, e, _⟩ := hq0; rw [e]; rfl⟩
instance {r : Rl α} : Ns (rM r) := ⟨fun _ _ hq0 => by obtain ⟨_, _, e, _⟩ := hq0; rw [e]; rfl⟩
instance {r : Rl α} {q : Rl β} {t : Rl γ} : Ns (aa r q t) := ⟨fun _ _ hq0 => by obtain ⟨_, _, _, e, _⟩ := hq0; rw [e]; rfl⟩
class Ls (r : Rl (List α)) (q : outParam (Rl α)) : Prop where
 l : ∀ xs d, r xs d -> ∃ o ds, d = .lst o ds /\ All2 q xs ds
instance {r : Rl α} : Ls (rL r) r := ⟨fun _ _ ⟨ds, e, h⟩ => ⟨true, ds, e, h⟩⟩
instance {r : Rl α} : Ls (rM r) r := ⟨fun _ _ ⟨o, ds, e, h⟩ => ⟨o, ds, e, h⟩⟩
end
section
variable {S : Type} {α β γ δ ρ : Type} {Z Z1 Z2 Z3 Z' Zn : bc S}
inductive TR (S ρ : Type) where
 | nx (s : S) | rt (v : ρ) (s : S) | bk (s : S) | ct (s : S)
noncomputable def JP (Z : bc S) (p : DP) (f : S -> Option α) (r : Rl α) : Prop := ∀ s σ v, Sat Z s σ -> f s = some v -> ∃ d, p σ = some d /\ r v d
noncomputable def JE (Z : bc S) (c : DE) (f : S -> Option (α × S)) (r : Rl α) (Z' : bc S) : Prop := ∀ s σ v s', Sat Z s σ -> f s = some (v, s') -> ∃ d σ', c σ = some (d, σ') /\ r v d /\ Sat Z' s' σ'
noncomputable def JT (Z : bc S) (t : DT) (f : S -> Option (Bool × S)) (Z' : bc S) : Prop := ∀ s σ b s', Sat Z s σ -> f s = some (b, s') -> ∃ σ', t σ = some (b, σ') /\ Sat Z' s' σ'
noncomputable def JL (Z : bc S) (c : DA) (f : S -> Option (List α × S)) (r : Rl α) (Z' : bc S) : Prop := ∀ s σ v s', Sat Z s σ -> f s = some (v, s') -> ∃ ds σ', c σ = some (ds, σ') /\ All2 r v ds /\ Sat Z' s' σ'
noncomputable def JI (Z : bc S) (c : DI) (f : S -> Option (List α × S)) (r : Rl α) (Z' : bc S) : Prop := ∀ s σ v s', Sat Z s σ -> f s = some (v, s') -> ∃ ds σ', c σ = some (ds, σ') /\ All2 r v ds /\ Sat Z' s' σ'
noncomputable def JG (Z : bc S) (g : DG) (put : S -> α -> S) (r : Rl α) (Z' : bc S) : Prop := ∀ s σ v d, Sat Z s σ -> r v d -> ∃ σ', g d σ = some σ' /\ Sat Z' (put s v) σ'
structure Ex (S ρ : Type) where
 rt : bc S
 ro : Rl ρ
 lp : bc S
noncomputable def Rs (Zn : bc S) (E : Ex S ρ) : TR S ρ -> Out -> Prop
 | .nx s, .nx σ => Sat Zn s σ
 | .rt v s, .rt d σ => E.ro v d /\ Sat E.rt s σ
 | .bk s, .bk σ => Sat E.lp s σ
 | .ct s, .ct σ => Sat E.lp s σ
 | _, _ => False
noncomputable def JS (Z : bc S) (c : DS) (f : S -> Option (TR S ρ)) (Zn : bc S) (E : Ex S ρ) : Prop := ∀ s σ t, Sat Z s σ -> f s = some t -> ∃ o, c σ = some o /\ Rs Zn E t o
theorem bd {α β : Type} {o : Option α} {f : α -> Option β} {b : β} (h : o.bind f = some b) : ∃ a, o = some a /\ f a = some b := by
 cases o with
 | none => cases h
 | some a => exact ⟨a, rfl, h⟩
theorem mp {α β : Type} {o : Option α} {f : α -> β} {b : β} (h : o.map f = some b) : ∃ a, o = some a /\ f a = b := by
 cases o with
 | none => cases h
 | some a => exact ⟨a, rfl, Option.some.inj h⟩
theorem af (i : Nat) {get : S -> α} {r : Rl α} (h : Z[i]? = some (some ⟨get, r⟩)) : JP Z (pV i) (fun s => some (get s)) r := fun s σ v hs e => by
 obtain ⟨d, h1, h2⟩ := hs.get h;cases e;exact ⟨d, h1, h2⟩
theorem uj {d : D} (v : α) {r : Rl α} (h : r v d) : JP Z (pC d) (fun _ => some v) r := fun s σ w hs e => by cases e; exact ⟨d, rfl, h⟩
theorem aC (i : Int) : JP Z (pC (.int i)) (fun _ => some i) rI := uj i rfl
theorem mU (i : Bool) : JP Z (pC (.bl i)) (fun _ => some i) rB := uj i rfl
theorem wH (i : Str) : JP Z (pC (.str i)) (fun _ => some i) rS := uj i rfl
theorem BA (t : String) : JP Z (pC (.ty t)) (fun _ => some ()) (BT t) := uj () rfl
noncomputable def JO (g : D -> D -> Option D) (h : α -> β -> Option γ) (ra : Rl α) (rb : Rl β) (rc : Rl γ) : Prop := ∀ a b c x y, h a b = some c -> ra a x -> rb b y -> ∃ z, g x y = some z /\ rc c z
theorem aw {g : D -> D -> Option D} {h : α -> β -> Option γ} {ra : Rl α} {rb : Rl β} {rc : Rl γ} {p q : DP} {f1 : S -> Option α} {f2 : S -> Option β} (o : JO g h ra rb rc) (h1 : JP Z p f1 ra) (h2 : JP Z q f2 rb) :
  JP Z (aU g p q) (fun s => (f1 s).bind fun a => (f2 s).bind fun b => h a b) rc := fun s σ v hs e => by
 obtain ⟨a, e1, e⟩ := bd e;obtain ⟨b, e2, e⟩ := bd e;obtain ⟨x, hx, rx⟩ := h1 s σ a hs e1;obtain ⟨y, hy, ry⟩ := h2 s σ b hs e2;obtain ⟨z, hz, rz⟩ := o a b v x y e rx ry;exact ⟨z, by simp only [aU, hx, hy, bind_some, hz], rz⟩
theorem cw {f : Int -> Int -> Int} : JO (kC f) (fun a b => some (f a b)) rI rI rI := fun a b c x y e h1 h2 => by cases h1; cases h2; cases e; exact ⟨_, rfl, rfl⟩
theorem db {C : Int -> Int -> Bool} {f : Int -> Int -> Int} : JO (gI C f) (fun a b => if C a b = true then some (f a b) else none) rI rI rI := fun a b c x y e h1 h2 => by
 cases h1; cases h2;dsimp only at e;split at e
 ·rename_i h; cases e; exact ⟨_, if_pos h, rfl⟩
 ·cases e
noncomputable def hU (i j : Int) : Bool := Nat.ble i.natAbs 9223372036854775808 || Nat.ble j.natAbs 9223372036854775808
theorem yL {i j : Int} (h : hU i j = true) : ue i j = true := by
 simp only [hU, Bool.or_eq_true, Nat.ble_eq] at h;simp only [ue, decide_eq_true_eq];omega
theorem gL : JO i7 (fun a b => if hU a b = true then some (a * b) else none) rI rI rI := fun a b c x y e h1 h2 => by
 cases h1; cases h2;dsimp only at e;split at e
 ·rename_i h; cases e; exact ⟨_, if_pos (yL h), rfl⟩
 ·cases e
noncomputable def iy (i : Int) : Bool := Nat.ble i.natAbs 1000000000
theorem oi {i : Int} (h : iy i = true) : qq i = true := by
 simp only [iy, Nat.ble_eq] at h;simp only [qq, decide_eq_true_eq];omega
theorem jq {f : Int -> Int -> Bool} : JO (pG f) (fun a b => some (f a b)) rI rI rB := fun a b c x y e h1 h2 => by cases h1; cases h2; cases e; exact ⟨_, rfl, rfl⟩
theorem i4 {p : DP} {f : S -> Option Int} (h : JP Z p f rI) : JP Z (gx p) (fun s => (f s).map fun a => -a) rI := fun s σ v hs e => by
 obtain ⟨a, e1, e2⟩ := mp e;obtain ⟨x, hx, rx⟩ := h s σ a hs e1;cases rx; cases e2;exact ⟨_, by simp only [gx, hx, bind_some, wW], rfl⟩
class Py {α : Type} (r : Rl α) where
 pe : α -> PyData
 ok : α -> Bool
 k : Nat
 py : ∀ a d, r a d -> d.py = some (pe a)
 lay : ∀ a, ok a = true -> (pe a).canLay0 = true
 dep : ∀ a, ok a = true -> (pe a).depth <= k
class EqR {α β : Type} (r : Rl α) (q : Rl β) [Py r] [Py q] (f : outParam (α -> β -> Bool)) : Prop where
 eqv : ∀ a b, PyData.eqv (Py.pe r a) (Py.pe q b) = f a b
instance : Py rI := ⟨PyData.int, fun _ => true, 0, fun _ _ h => by cases h; rfl, fun _ _ => rfl, fun _ _ => Nat.le_refl _⟩
instance : Py rB := ⟨PyData.bool, fun _ => true, 0, fun _ _ h => by cases h; rfl, fun _ _ => rfl, fun _ _ => Nat.le_refl _⟩
instance : Py rS := ⟨PyData.str, PyData.strOk, 0, fun _ _ h => by cases h; rfl, fun _ h => h, fun _ _ => Nat.le_refl _⟩
theorem uY {r : Rl α} [k : Py r] : ∀ {as : List α} {ds : List D}, All2 r as ds -> D.pyL ds = some (as.map (Py.pe r)) := by
 intro as ds h
 induction h with
 | nil => rfl
 | cons h t ih => simp only [D.pyL, k.py _ _ h, ih, bind_some, map_some, List.map_cons]
theorem sK {r : Rl α} [k : Py r] : ∀ {as : List α}, as.all (Py.ok r) = true -> PyData.canLayAll0 (as.map (Py.pe r)) = true
 | [], _ => rfl
 | a :: as, h => by
  simp only [List.all_cons, Bool.and_eq_true] at h;simp only [List.map_cons, PyData.canLayAll0, k.lay _ h.1, sK h.2, Bool.and_self]
theorem sT {r : Rl α} [k : Py r] : ∀ {as : List α}, as.all (Py.ok r) = true -> PyData.depthAll (as.map (Py.pe r)) <= Py.k r
 | [], _ => Nat.zero_le _
 | a :: as, h => by
  simp only [List.all_cons, Bool.and_eq_true] at h;simp only [List.map_cons, PyData.depthAll]; exact Nat.max_le.mpr ⟨k.dep a h.1, sT h.2⟩
instance {r : Rl (List α)} {q : Rl α} [l : Ls r q] [k : Py q] : Py r := ⟨fun as => .list (as.map (Py.pe q)), fun as => as.all (Py.ok q), Py.k q + 1,
 fun a d h => by obtain ⟨o, ds, e, h⟩ := l.l a d h; rw [e]; simp only [D.py, uY h, map_some], fun a h => by simp only [PyData.canLay0]; exact sK h, fun a h => by simp only [PyData.depth]; have := sT (r := q) (as := a) h; omega⟩
noncomputable def j6 (f : α -> β -> Bool) : List α -> List β -> Bool
 | [], [] => true
 | a :: as, b :: bs => f a b && j6 f as bs
 | _, _ => false
instance : EqR rI rI (fun a b => a == b) := ⟨fun a b => by simp only [Py.pe, PyData.eqv]⟩
instance : EqR rB rB (fun a b => a == b) := ⟨fun a b => by cases a <;> cases b <;> rfl⟩
instance : EqR rS rS (fun a b => a == b) := ⟨fun a b => by simp only [Py.pe, PyData.eqv]⟩
theorem AI {r : Rl α} {q : Rl β} [Py r] [Py q] {f : α -> β -> Bool} [k : EqR r q f] : ∀ {as : List α} {bs : List β}, PyData.eqvAll (as.map (Py.pe r)) (bs.map (Py.pe q)) = j6 f as bs
 | [], [] => rfl
 | [], _ :: _ => rfl
 | _ :: _, [] => rfl
 | a :: as, b :: bs => by simp only [List.map_cons, PyData.eqvAll, j6, k.eqv a b, AI]
instance {r : Rl (List α)} {q : Rl (List β)} {r' : Rl α} {q' : Rl β} [Ls r r'] [Ls q q'] [Py r'] [Py q'] {f : α -> β -> Bool} [k : EqR r' q' f] : EqR r q (j6 f) := ⟨fun a b => by simp only [Py.pe, PyData.eqv]; exact AI⟩
theorem t5 {r : Rl α} {q : Rl β} [kr : Py r] [kq : Py q] {a : α} {b : β} (h : (Py.ok r a && Py.ok q b && decide (min (Py.k r) (Py.k q) <= 50)) = true) : kf (Py.pe r a) (Py.pe q b) = true := by
 simp only [Bool.and_eq_true, decide_eq_true_eq] at h;simp only [kf, kr.lay _ h.1.1, kq.lay _ h.1.2, Bool.and_self, Bool.true_and, decide_eq_true_eq];have h1 := kr.dep a h.1.1;have h2 := kq.dep b h.1.2;omega
theorem dn {r : Rl α} {q : Rl β} [kr : Py r] [kq : Py q] {f : α -> β -> Bool} [k : EqR r q f] : JO eG (fun a b => if (Py.ok r a && Py.ok q b && decide (min (Py.k r) (Py.k q) <= 50)) = true then some (f a b) else none) r q rB := fun a b c x y e h1 h2 => by
 dsimp only at e;split at e
 ·rename_i h
  cases e;exact ⟨_, by simp only [eG, kr.py _ _ h1, kq.py _ _ h2, bind_some, t5 h, if_true, k.eqv], rfl⟩
 ·cases e
theorem iJ {r : Rl α} {q : Rl β} [kr : Py r] [kq : Py q] {f : α -> β -> Bool} [k : EqR r q f] : JO jy (fun a b => if (Py.ok r a && Py.ok q b && decide (min (Py.k r) (Py.k q) <= 50)) = true then some (!f a b) else none) r q rB := fun a b c x y e h1 h2 => by
 dsimp only at e;split at e
 ·rename_i h
  cases e;exact ⟨_, by simp only [jy, kr.py _ _ h1, kq.py _ _ h2, bind_some, t5 h, if_true, k.eqv], rfl⟩
 ·cases e
theorem All2.at {r : Rl α} {as : List α} {ds : List D} {i : Int} {a : α} (h : All2 r as ds) (e : cy as i = some a) : ∃ d, cy ds i = some d /\ r a d := by
 unfold cy at e ⊢;rw [<- h.len];obtain ⟨j, e1, e2⟩ := bd e;obtain ⟨d, h1, h2⟩ := h.get e2;exact ⟨d, by rw [e1]; exact h1, h2⟩
theorem gM {r : Rl (List α)} {q : Rl α} [l : Ls r q] : JO ff (fun (xs : List α) i => cy xs i) r rI q := fun a b c x y e h1 h2 => by
 obtain ⟨o, ds, e1, h⟩ := l.l a x h1;cases h2; subst e1;exact h.at e
noncomputable def tw (r : Rl α) (k : Int) (π : α -> β) (q : Rl β) : Prop := ∀ a d, r a d -> ∃ x, ff d (.int k) = some x /\ q (π a) x
theorem A6 {r : Rl α} {q : Rl β} : tw (gX r q) 0 (fun p => p.1) r := fun _ _ ⟨x, _, e, h, _⟩ => ⟨x, by rw [e]; rfl, h⟩
theorem A5 {r : Rl α} {q : Rl β} {t : Rl γ} : tw (aa r q t) 0 (fun p => p.1) r := fun _ _ ⟨x, _, _, e, h, _⟩ => ⟨x, by rw [e]; rfl, h⟩
theorem A4 {r : Rl α} {q : Rl β} {t : Rl γ} : tw (aa r q t) 1 (fun p => p.2.1) q := fun _ _ ⟨_, y, _, e, _, h, _⟩ => ⟨y, by rw [e]; rfl, h⟩
theorem tR {r : Rl α} {q : Rl β} {t : Rl γ} : tw (aa r q t) 2 (fun p => p.2.2) t := fun _ _ ⟨_, _, z, e, _, _, h⟩ => ⟨z, by rw [e]; rfl, h⟩
theorem Ax {r : Rl α} {q : Rl β} {k : Int} {π : α -> β} {p : DP} {f : S -> Option α} (t : tw r k π q) (h : JP Z p f r) : JP Z (aU ff p (pC (.int k))) (fun s => (f s).map π) q := fun s σ v hs e => by
 obtain ⟨a, e1, e2⟩ := mp e;obtain ⟨x, hx, rx⟩ := h s σ a hs e1;obtain ⟨y, hy, ry⟩ := t a x rx;cases e2;exact ⟨y, by simp only [aU, hx, pC, bind_some, hy], ry⟩
noncomputable def v8 (g : List D -> Option D) (h : α -> Option γ) (ra : Rl α) (rc : Rl γ) : Prop := ∀ a c x, h a = some c -> ra a x -> ∃ z, g [x] = some z /\ rc c z
noncomputable def xU (g : List D -> Option D) (h : α -> β -> Option γ) (ra : Rl α) (rb : Rl β) (rc : Rl γ) : Prop := ∀ a b c x y, h a b = some c -> ra a x -> rb b y -> ∃ z, g [x, y] = some z /\ rc c z
theorem dZ {g : List D -> Option D} {h : α -> Option γ} {ra : Rl α} {rc : Rl γ} {p : DP} {f : S -> Option α} (o : v8 g h ra rc) (h1 : JP Z p f ra) : JP Z (cE g [p]) (fun s => (f s).bind h) rc := fun s σ v hs e => by
 obtain ⟨a, e1, e⟩ := bd e;obtain ⟨x, hx, rx⟩ := h1 s σ a hs e1;obtain ⟨z, hz, rz⟩ := o a v x e rx;exact ⟨z, by simp only [cE, j0, hx, bind_some, map_some, hz], rz⟩
theorem nC {g : List D -> Option D} {h : α -> β -> Option γ} {ra : Rl α} {rb : Rl β} {rc : Rl γ} {p q : DP} {f1 : S -> Option α} {f2 : S -> Option β} (o : xU g h ra rb rc) (h1 : JP Z p f1 ra) (h2 : JP Z q f2 rb) : JP Z (cE g [p, q]) (fun s => (f1 s).bind fun a => (f2 s).bind fun b => h a b) rc := fun s σ v hs e => by
 obtain ⟨a, e1, e⟩ := bd e;obtain ⟨b, e2, e⟩ := bd e;obtain ⟨x, hx, rx⟩ := h1 s σ a hs e1;obtain ⟨y, hy, ry⟩ := h2 s σ b hs e2;obtain ⟨z, hz, rz⟩ := o a b v x y e rx ry;exact ⟨z, by simp only [cE, j0, hx, hy, bind_some, map_some, hz], rz⟩
theorem il {r : Rl (List α)} {q : Rl α} [l : Ls r q] : v8 iA (fun xs : List α => some (xs.length : Int)) r rI := fun a c x e h => by
 obtain ⟨o, ds, e1, hh⟩ := l.l a x h;cases e; subst e1;exact ⟨_, rfl, by rw [hh.len]; rfl⟩
theorem yU : v8 qU (fun b : Bool => some (if b then (1 : Int) else 0)) rB rI := fun a c x e h => by cases h; cases e; exact ⟨_, rfl, rfl⟩
theorem AC : v8 rV (fun i : Int => some (if i < 0 then -i else i)) rI rI := fun a c x e h => by cases h; cases e; exact ⟨_, rfl, rfl⟩
theorem vA : xU lI (fun i j : Int => some (if j > i then j else i)) rI rI rI := fun a b c x y e h k => by cases h; cases k; cases e; exact ⟨_, rfl, rfl⟩
theorem vz : xU lH (fun i j : Int => some (if j < i then j else i)) rI rI rI := fun a b c x y e h k => by cases h; cases k; cases e; exact ⟨_, rfl, rfl⟩
class Kd (r : Rl α) (k : outParam String) : Prop where
 k : ∀ a d t, r a d -> oJ [d, .ty t] = (mZ k t).map .bl
instance : Kd rB "bool" := ⟨fun _ _ _ h => by cases h; rfl⟩
theorem AB {r : Rl α} {k t : String} [n : Kd r k] : xU oJ (fun (_ : α) (_ : Unit) => mZ k t) r (BT t) rB := fun a b c x y e h1 h2 => by
 cases h2;dsimp only at e;exact ⟨_, by rw [n.k a x t h1, e]; rfl, rfl⟩
end
section
variable {S : Type} {α β γ δ ρ : Type} {Z Z0 Z1 Z2 Z3 Z4 Z' Zn Zh : bc S} {c c' : DE} {t u : DT} {E : Ex S ρ}
theorem ah {p : DP} {f : S -> Option α} {r : Rl α} [k : Sc r] (h : JP Z p f r) : JE Z (dS p) (fun s => (f s).map fun a => (a, s)) r Z := fun s σ v s' hs e => by
 obtain ⟨a, e1, e2⟩ := mp e;cases e2;obtain ⟨d, hd, rd⟩ := h s σ v hs e1;obtain ⟨w, hw⟩ := k.s _ _ rd;exact ⟨d, σ, by simp only [dS, hd, bind_some, hw], rd, hs⟩
theorem aM (i : Nat) {get : S -> α} {r r' : Rl α} [k : Fz r r'] (h : Z[i]? = some (some ⟨get, r⟩)) : JE Z (bA i) (fun s => some (get s, s)) r' (Z.set i (some ⟨get, r'⟩)) := fun s σ v s' hs e => by
 obtain ⟨d, h1, h2⟩ := hs.get h;cases e;exact ⟨d.fz, _, by simp only [bA, h1, map_some], k.f _ _ h2, hs.set ⟨_, rfl, k.f _ _ h2⟩⟩
theorem dQ (i : Nat) {get : S -> α} {r : Rl α} (h : Z[i]? = some (some ⟨get, r⟩)) : JE Z (gi i) (fun s => some (get s, s)) r (Z.set i none) := fun s σ v s' hs e => by
 obtain ⟨d, h1, h2⟩ := hs.get h;cases e;exact ⟨d, σ.set i none, by simp only [gi, h1, map_some], h2, hs.setn⟩
theorem cB {g : D -> D -> Option D} {h : α -> β -> Option γ} {ra : Rl α} {rb : Rl β} {rc : Rl γ} {f1 : S -> Option (α × S)} {f2 : S -> Option (β × S)} (o : JO g h ra rb rc) (h1 : JE Z c f1 ra Z1) (h2 : JE Z1 c' f2 rb Z2) :
  JE Z (df g c c') (fun s => (f1 s).bind fun p => (f2 p.2).bind fun q => (h p.1 q.1).map fun v => (v, q.2)) rc Z2 := fun s σ v s' hs e => by
 obtain ⟨⟨a, s1⟩, e1, e⟩ := bd e;obtain ⟨⟨b, s2⟩, e2, e⟩ := bd e;obtain ⟨w, e3, e⟩ := mp e;cases e;obtain ⟨x, σ1, hx, rx, k1⟩ := h1 s σ a s1 hs e1;obtain ⟨y, σ2, hy, ry, k2⟩ := h2 s1 σ1 b s2 k1 e2;obtain ⟨z, hz, rz⟩ := o a b v x y e3 rx ry;exact ⟨z, σ2, by simp only [df, hx, hy, bind_some, hz, map_some], rz, k2⟩
theorem d7 {r : Rl (List α)} {q : Rl α} [l : Ls r q] {f1 : S -> Option (List α × S)} {f2 : S -> Option (Int × S)} (h1 : JE Z c f1 r Z1) (h2 : JE Z1 c' f2 rI Z2) :
  JE Z (eE c c') (fun s => (f1 s).bind fun p => (f2 p.2).bind fun q => (cy p.1 q.1).map fun v => (v, q.2)) q Z2 := cB gM h1 h2
theorem li {r : Rl α} {q : Rl β} {k : Int} {π : α -> β} {f : S -> Option (α × S)} (t : tw r k π q) (h : JE Z c f r Z1) : JE Z (eE c (dS (pC (.int k)))) (fun s => (f s).map fun p => (π p.1, p.2)) q Z1 := fun s σ v s' hs e => by
 obtain ⟨⟨a, s1⟩, e1, e2⟩ := mp e;obtain ⟨x, σ1, hx, rx, k1⟩ := h s σ a s1 hs e1;obtain ⟨y, hy, ry⟩ := t a x rx;cases e2;exact ⟨y, σ1, by simp only [eE, hx, dS, pC, bind_some, D.sc, hy, map_some], ry, k1⟩
theorem AA {f g : S -> Option (Bool × S)} (h1 : JE Z c f rB Z1) (h2 : JE Z1 c' g rB Z2) (l : autoParam (Le Z1 Z') jC._auto_1) (l2 : autoParam (Le Z2 Z') jC._auto_1) : JE Z (lS c c') (fun s => (f s).bind fun p => if p.1 = true then g p.2 else some (false, p.2)) rB Z' := fun s σ v s' hs e => by
 obtain ⟨⟨a, s1⟩, e1, e2⟩ := bd e;obtain ⟨x, σ1, hx, rx, k1⟩ := h1 s σ a s1 hs e1;cases rx;cases a
 ·simp only [Bool.false_eq_true, if_false] at e2
  cases e2;exact ⟨_, σ1, by simp only [lS, hx, bind_some], rfl, l.sat k1⟩
 ·simp only [if_true] at e2
  obtain ⟨y, σ2, hy, ry, k2⟩ := h2 s1 σ1 v s' k1 e2;exact ⟨y, σ2, by simp only [lS, hx, bind_some, hy], ry, l2.sat k2⟩
theorem BC {f g : S -> Option (Bool × S)} (h1 : JE Z c f rB Z1) (h2 : JE Z1 c' g rB Z2) (l : autoParam (Le Z1 Z') jC._auto_1) (l2 : autoParam (Le Z2 Z') jC._auto_1) : JE Z (oU c c') (fun s => (f s).bind fun p => if p.1 = true then some (true, p.2) else g p.2) rB Z' := fun s σ v s' hs e => by
 obtain ⟨⟨a, s1⟩, e1, e2⟩ := bd e;obtain ⟨x, σ1, hx, rx, k1⟩ := h1 s σ a s1 hs e1;cases rx;cases a
 ·simp only [Bool.false_eq_true, if_false] at e2
  obtain ⟨y, σ2, hy, ry, k2⟩ := h2 s1 σ1 v s' k1 e2;exact ⟨y, σ2, by simp only [oU, hx, bind_some, hy], ry, l2.sat k2⟩
 ·simp only [if_true] at e2
  cases e2;exact ⟨_, σ1, by simp only [oU, hx, bind_some], rfl, l.sat k1⟩
theorem cP {r : Rl α} : JL Z aW (fun s => some ([], s)) r Z := fun s σ v s' hs e => by cases e; exact ⟨[], σ, rfl, .nil, hs⟩
theorem bN {r : Rl α} {ca : DA} {f : S -> Option (α × S)} {g : S -> Option (List α × S)} (h1 : JE Z c f r Z1) (h2 : JL Z1 ca g r Z2) : JL Z (ag c ca) (fun s => (f s).bind fun p => (g p.2).map fun q => (p.1 :: q.1, q.2)) r Z2 := fun s σ v s' hs e => by
 obtain ⟨⟨a, s1⟩, e1, e⟩ := bd e;obtain ⟨⟨b, s2⟩, e2, e⟩ := mp e;cases e;obtain ⟨x, σ1, hx, rx, k1⟩ := h1 s σ a s1 hs e1;obtain ⟨ys, σ2, hy, ry, k2⟩ := h2 s1 σ1 b s2 k1 e2;exact ⟨x :: ys, σ2, by simp only [ag, hx, hy, bind_some, map_some], .cons rx ry, k2⟩
theorem cQ {r : Rl α} {ca : DA} {f : S -> Option (List α × S)} (h : JL Z ca f r Z1) : JE Z (dv ca) (fun s => (f s).bind fun p => if gE (p.1.length) = true then some p else none) (rL r) Z1 := fun s σ v s' hs e => by
 obtain ⟨⟨a, s1⟩, e1, e⟩ := bd e;obtain ⟨ds, σ1, hx, rx, k1⟩ := h s σ a s1 hs e1;dsimp only at e;split at e
 ·rename_i hl
  have hl := jL hl;cases e;exact ⟨_, σ1, by simp only [dv, hx, bind_some, <- rx.len, hl, if_true], ⟨ds, rfl, rx⟩, k1⟩
 ·cases e
theorem CD {n : Nat} (h : n <= 100) : n <= sizeLine := Nat.le_of_lt (L2.small1000 oM)
theorem fM {c : DE} {ca : DA} {σ σ1 σ2 : aZ} {x : D} {xs : List D} (h : c σ = some (x, σ1)) (h' : ca σ1 = some (xs, σ2)) : ag c ca σ = some (x :: xs, σ2) := by
 simp only [ag, h, h', bind_some, map_some]
theorem oT {ca : DA} {σ σ1 : aZ} {xs : List D} (h : ca σ = some (xs, σ1)) (hl : xs.length <= 100) : bX ca σ = some (.tup xs, σ1) := by
 simp only [bX, h, bind_some, CD hl, if_true]
theorem lN {a b : DE} {ra : Rl α} {rb : Rl β} {f : S -> Option (α × S)} {g : S -> Option (β × S)} (h1 : JE Z a f ra Z1) (h2 : JE Z1 b g rb Z2) : JE Z (bX (ag a (ag b aW))) (fun s => (f s).bind fun p => (g p.2).map fun q => ((p.1, q.1), q.2)) (gX ra rb) Z2 := fun s σ v s' hs e => by
 obtain ⟨⟨a, s1⟩, e1, e⟩ := bd e;obtain ⟨⟨b, s2⟩, e2, e⟩ := mp e;cases e;obtain ⟨x, σ1, hx, rx, k1⟩ := h1 s σ a s1 hs e1;obtain ⟨y, σ2, hy, ry, k2⟩ := h2 s1 σ1 b s2 k1 e2;exact ⟨_, σ2, oT (fM hx (fM hy rfl)) (Nat.le_of_ble_eq_true rfl), ⟨x, y, rfl, rx, ry⟩, k2⟩
theorem cx {a b d : DE} {ra : Rl α} {rb : Rl β} {rd : Rl γ} {f : S -> Option (α × S)} {g : S -> Option (β × S)} {h : S -> Option (γ × S)} (h1 : JE Z a f ra Z1) (h2 : JE Z1 b g rb Z2) (h3 : JE Z2 d h rd Z3) :
  JE Z (bX (ag a (ag b (ag d aW)))) (fun s => (f s).bind fun p => (g p.2).bind fun q => (h q.2).map fun o => ((p.1, q.1, o.1), o.2)) (aa ra rb rd) Z3 := fun s σ v s' hs e => by
 obtain ⟨⟨a, s1⟩, e1, e⟩ := bd e;obtain ⟨⟨b, s2⟩, e2, e⟩ := bd e;obtain ⟨⟨w, s3⟩, e3, e⟩ := mp e;cases e;obtain ⟨x, σ1, hx, rx, k1⟩ := h1 s σ a s1 hs e1;obtain ⟨y, σ2, hy, ry, k2⟩ := h2 s1 σ1 b s2 k1 e2;obtain ⟨z, σ3, hz, rz, k3⟩ := h3 s2 σ2 w s3 k2 e3;exact ⟨_, σ3, oT (fM hx (fM hy (fM hz rfl))) (Nat.le_of_ble_eq_true rfl), ⟨x, y, z, rfl, rx, ry, rz⟩, k3⟩
theorem BB {a b d m : DE} {ra : Rl α} {rb : Rl β} {rd : Rl γ} {rm : Rl δ} {f : S -> Option (α × S)} {g : S -> Option (β × S)} {h : S -> Option (γ × S)} {j : S -> Option (δ × S)} (h1 : JE Z a f ra Z1) (h2 : JE Z1 b g rb Z2) (h3 : JE Z2 d h rd Z3) (h4 : JE Z3 m j rm Z4) :
  JE Z (bX (ag a (ag b (ag d (ag m aW))))) (fun s => (f s).bind fun p => (g p.2).bind fun q => (h q.2).bind fun o => (j o.2).map fun n => ((p.1, q.1, o.1, n.1), n.2)) (xw ra rb rd rm) Z4 := fun s σ v s' hs e => by
 obtain ⟨⟨a, s1⟩, e1, e⟩ := bd e;obtain ⟨⟨b, s2⟩, e2, e⟩ := bd e;obtain ⟨⟨w, s3⟩, e3, e⟩ := bd e;obtain ⟨⟨n, s4⟩, e4, e⟩ := mp e;cases e;obtain ⟨x, σ1, hx, rx, k1⟩ := h1 s σ a s1 hs e1;obtain ⟨y, σ2, hy, ry, k2⟩ := h2 s1 σ1 b s2 k1 e2;obtain ⟨z, σ3, hz, rz, k3⟩ := h3 s2 σ2 w s3 k2 e3;obtain ⟨o, σ4, ho, ro, k4⟩ := h4 s3 σ3 n s4 k3 e4;exact ⟨_, σ4, oT (fM hx (fM hy (fM hz (fM ho rfl)))) (Nat.le_of_ble_eq_true rfl), ⟨x, y, z, o, rfl, rx, ry, rz, ro⟩, k4⟩
theorem gb {r : Rl α} {f g : S -> Option (List α × S)} (h1 : JE Z c f (rL r) Z1) (h2 : JE Z1 c' g (rL r) Z2) : JE Z (gS c c') (fun s => (f s).bind fun p => (g p.2).bind fun q => if gE (p.1.length + q.1.length) = true then some (p.1 ++ q.1, q.2) else none) (rL r) Z2 := fun s σ v s' hs e => by
 obtain ⟨⟨a, s1⟩, e1, e⟩ := bd e;obtain ⟨⟨b, s2⟩, e2, e⟩ := bd e;dsimp only at e;split at e
 ·rename_i hl
  have hl := jL hl;cases e;obtain ⟨x, σ1, hx, ⟨xs, rfl, rx⟩, k1⟩ := h1 s σ a s1 hs e1;obtain ⟨y, σ2, hy, ⟨ys, rfl, ry⟩, k2⟩ := h2 s1 σ1 b _ k1 e2;exact ⟨_, σ2, by simp only [gS, hx, hy, bind_some, <- rx.len, <- ry.len, hl, if_true], ⟨_, rfl, rx.append ry⟩, k2⟩
 ·cases e
noncomputable def xR (Z : bc S) (p : Option DP) (f : S -> Option (Option Int)) : Prop := ∀ s σ v, Sat Z s σ -> f s = some v -> jZ p σ = some v
theorem dE : xR Z none (fun _ => some none) := fun s σ v hs e => by cases e; rfl
theorem cZ {p : DP} {f : S -> Option Int} (h : JP Z p f rI) : xR Z (some p) (fun s => (f s).map some) := fun s σ v hs e => by
 obtain ⟨a, e1, e2⟩ := mp e;obtain ⟨x, hx, rx⟩ := h s σ a hs e1;cases rx; cases e2;simp only [jZ, hx, bind_some]
theorem All2.cut {r : Rl α} {as : List α} {ds : List D} (h : All2 r as ds) (lo hi : Option Int) : All2 r (fO as lo hi) (fO ds lo hi) := by
 unfold fO;rw [h.len];exact (h.drop _).take _
theorem Sat.put {i : Nat} {get : S -> α} {put : S -> α -> S} {r : Rl α} {s : S} {σ : aZ} {v : α} {d : D} (hs : Sat Z s σ) (hg : ∀ s v, get (put s v) = v) (hf : ∀ v, Fr (fun s => put s v) (Z.set i none)) (h : r v d) : Sat (Z.set i (some ⟨get, r⟩)) (put s v) (σ.set i (some d)) := by
 have h1 := (hf v).sat (On.setn (i := i) hs);have h2 := h1.set (i := i) (l := some ⟨get, r⟩) (o := some d) ⟨d, rfl, by rw [show (Sl.mk get r).get = get from rfl, hg]; exact h⟩;rw [List.set_set] at h2;exact h2
theorem hW (i : Nat) {get : S -> List α} {put : S -> List α -> S} {rl : Rl (List α)} {r q : Rl α} [l : Ls rl q] {f : S -> Option (α × S)} (h : JE Z c f r Z1) (h0 : Z[i]? = some (some ⟨get, rl⟩)) (hi : Z1[i]? = some (some ⟨get, rL r⟩)) (hg : autoParam (∀ s v, get (put s v) = v) nZ._auto_1) (hf : autoParam (∀ v, Fr (fun s => put s v) (Z1.set i none)) nk._auto_1) :
  JE Z (gT i c) (fun s => (f s).bind fun p => if xC ((get p.2).length) = true then some ((), put p.2 (get p.2 ++ [p.1])) else none) rN (Z1.set i (some ⟨get, rL r⟩)) := fun s σ v s' hs e => by
 obtain ⟨⟨a, s1⟩, e1, e⟩ := bd e;dsimp only at e;split at e
 ·rename_i hl
  have hl := vm hl;cases e;obtain ⟨x, σ1, hx, rx, k1⟩ := h s σ a s1 hs e1;obtain ⟨d0, hd0, h00⟩ := hs.get h0;obtain ⟨o0, ds0, rfl, _⟩ := l.l _ _ h00;obtain ⟨d, hd, ds, rfl, h2⟩ := k1.get hi;exact ⟨.non, _, by simp only [gT, hd0, hx, bind_some, hd, <- h2.len, hl, if_true], rfl, k1.put hg hf ⟨_, rfl, h2.append (.cons rx .nil)⟩⟩
 ·cases e
theorem bK {f : S -> Option (Bool × S)} (h : JE Z c f rB Z1) : JT Z (ba c) f Z1 := fun s σ v s' hs e => by
 obtain ⟨d, σ1, h1, h2, h3⟩ := h s σ v s' hs e;cases h2;exact ⟨σ1, by simp only [ba, h1, bind_some], h3⟩
theorem vx {f : S -> Option (Bool × S)} (h : JT Z t f Z1) : JT Z (lA t) (fun s => (f s).map fun p => (!p.1, p.2)) Z1 := fun s σ v s' hs e => by
 obtain ⟨⟨a, s1⟩, e1, e2⟩ := mp e;obtain ⟨σ1, h1, h2⟩ := h s σ a s1 hs e1;cases e2;exact ⟨σ1, by simp only [lA, h1, map_some], h2⟩
theorem e8 {f g : S -> Option (Bool × S)} (h1 : JT Z t f Z1) (h2 : JT Z1 u g Z2) (l : autoParam (Le Z1 Z') jC._auto_1) (l2 : autoParam (Le Z2 Z') jC._auto_1) : JT Z (dW t u) (fun s => (f s).bind fun p => if p.1 = true then g p.2 else some (false, p.2)) Z' := fun s σ v s' hs e => by
 obtain ⟨⟨a, s1⟩, e1, e2⟩ := bd e;obtain ⟨σ1, hx, k1⟩ := h1 s σ a s1 hs e1;cases a
 ·simp only [Bool.false_eq_true, if_false] at e2
  cases e2;exact ⟨σ1, by simp only [dW, hx, bind_some, Bool.false_eq_true, if_false], l.sat k1⟩
 ·simp only [if_true] at e2
  obtain ⟨σ2, hy, k2⟩ := h2 s1 σ1 v s' k1 e2;exact ⟨σ2, by simp only [dW, hx, bind_some, hy, if_true], l2.sat k2⟩
theorem jp {f g : S -> Option (Bool × S)} (h1 : JT Z t f Z1) (h2 : JT Z1 u g Z2) (l : autoParam (Le Z1 Z') jC._auto_1) (l2 : autoParam (Le Z2 Z') jC._auto_1) : JT Z (g8 t u) (fun s => (f s).bind fun p => if p.1 = true then some (true, p.2) else g p.2) Z' := fun s σ v s' hs e => by
 obtain ⟨⟨a, s1⟩, e1, e2⟩ := bd e;obtain ⟨σ1, hx, k1⟩ := h1 s σ a s1 hs e1;cases a
 ·simp only [Bool.false_eq_true, if_false] at e2
  obtain ⟨σ2, hy, k2⟩ := h2 s1 σ1 v s' k1 e2;exact ⟨σ2, by simp only [g8, hx, bind_some, hy, Bool.false_eq_true, if_false], l2.sat k2⟩
 ·simp only [if_true] at e2
  cases e2;exact ⟨σ1, by simp only [g8, hx, bind_some, if_true], l.sat k1⟩
theorem lL : JT Z lz (fun s => some (true, s)) Z := fun s σ v s' hs e => by cases e; exact ⟨σ, rfl, hs⟩
noncomputable def tSeq (f g : S -> Option (TR S ρ)) : S -> Option (TR S ρ) := fun s => (f s).bind fun r => match r with | .nx s' => g s' | .rt v s' => some (.rt v s') | .bk s' => some (.bk s') | .ct s' => some (.ct s')
theorem sM {c : DS} : JS Z c (fun _ => none) Zn E := fun s σ v hs e => by cases e
theorem ap {a b : DS} {f g : S -> Option (TR S ρ)} (h1 : JS Z a f Z1 E) (h2 : JS Z1 b g Z2 E) : JS Z (aH a b) (tSeq f g) Z2 E := fun s σ v hs e => by
 obtain ⟨r, e1, e2⟩ := bd e;obtain ⟨o, ho, ro⟩ := h1 s σ r hs e1;cases r with
 | nx s' =>
  cases o with
  | nx σ' =>
   obtain ⟨o2, h3, r3⟩ := h2 s' σ' v ro e2;exact ⟨o2, by simp only [aH, ho, bind_some, h3], r3⟩
  | _ => exact ro.elim
 | rt w s' =>
  cases e2;cases o with
  | rt d σ' => exact ⟨.rt d σ', by simp only [aH, ho, bind_some], ro⟩
  | _ => exact ro.elim
 | bk s' =>
  cases e2;cases o with
  | bk σ' => exact ⟨.bk σ', by simp only [aH, ho, bind_some], ro⟩
  | _ => exact ro.elim
 | ct s' =>
  cases e2;cases o with
  | ct σ' => exact ⟨.ct σ', by simp only [aH, ho, bind_some], ro⟩
  | _ => exact ro.elim
theorem xE {a : DS} {f : S -> Option (TR S ρ)} (h : JS Z a f Z1 E) (l : Le Z1 Zn) : JS Z a f Zn E := fun s σ v hs e => by
 obtain ⟨o, ho, ro⟩ := h s σ v hs e;refine ⟨o, ho, ?_⟩;cases v <;> cases o <;> first | exact l.sat ro | exact ro
theorem bb (i : Nat) {get : S -> α} {put : S -> α -> S} {r : Rl α} {f : S -> Option (α × S)} (h : JE Z c f r Z1) (hg : autoParam (∀ s v, get (put s v) = v) nZ._auto_1) (hf : autoParam (∀ v, Fr (fun s => put s v) (Z1.set i none)) nk._auto_1) (hi : autoParam (i < Z1.length) cz._auto_1) :
  JS Z (bC i c) (fun s => (f s).map fun p => .nx (put p.2 p.1)) (Z1.set i (some ⟨get, r⟩)) E := fun s σ v hs e => by
 obtain ⟨⟨a, s1⟩, e1, e2⟩ := mp e;cases e2;obtain ⟨d, σ1, h1, h2, h3⟩ := h s σ a s1 hs e1;have hl : i < σ1.length := by rw [h3.len]; exact hi
 exact ⟨.nx (σ1.set i (some d)), by simp only [bC, h1, bind_some, hl, if_true], h3.put hg hf h2⟩
theorem cN {a b : DS} {ft : S -> Option (Bool × S)} {f g : S -> Option (TR S ρ)} (h0 : JT Z t ft Z0) (h1 : JS Z0 a f Z1 E) (h2 : JS Z0 b g Z2 E) (l1 : autoParam (Le Z1 Z') jC._auto_1) (l2 : autoParam (Le Z2 Z') jC._auto_1) : JS Z (dI t a b) (fun s => (ft s).bind fun p => if p.1 = true then f p.2 else g p.2) Z' E := fun s σ v hs e => by
 obtain ⟨⟨b, s1⟩, e1, e2⟩ := bd e;obtain ⟨σ1, hx, k1⟩ := h0 s σ b s1 hs e1;cases b
 ·simp only [Bool.false_eq_true, if_false] at e2
  obtain ⟨o, ho, ro⟩ := (xE h2 l2) s1 σ1 v k1 e2;exact ⟨o, by simp only [dI, hx, bind_some, ho, Bool.false_eq_true, if_false], ro⟩
 ·simp only [if_true] at e2
  obtain ⟨o, ho, ro⟩ := (xE h1 l1) s1 σ1 v k1 e2;exact ⟨o, by simp only [dI, hx, bind_some, ho, if_true], ro⟩
theorem bz {r : Rl ρ} {f : S -> Option (ρ × S)} (h : JE Z c f r Z1) (w : autoParam (Wk r E.ro) Cv._auto_1) (l : autoParam (Le Z1 E.rt) jC._auto_1) : JS Z (bY c) (fun s => (f s).map fun p => .rt p.1 p.2) Zn E := fun s σ v hs e => by
 obtain ⟨⟨a, s1⟩, e1, e2⟩ := mp e;cases e2;obtain ⟨d, σ1, h1, h2, h3⟩ := h s σ a s1 hs e1;exact ⟨.rt d σ1, by simp only [bY, h1, map_some], w.w _ _ h2, l.sat h3⟩
theorem fm {r : Rl α} {f : S -> Option (α × S)} (h : JE Z c f r Z1) : JS Z (fx c) (fun s => (f s).map fun p => .nx p.2) Z1 E := fun s σ v hs e => by
 obtain ⟨⟨a, s1⟩, e1, e2⟩ := mp e;cases e2;obtain ⟨d, σ1, h1, h2, h3⟩ := h s σ a s1 hs e1;exact ⟨.nx σ1, by simp only [fx, h1, map_some], h3⟩
theorem bW : JS Z cK (fun s => some (.nx s)) Z E := fun s σ v hs e => by cases e; exact ⟨_, rfl, hs⟩
theorem All2.ix {r : Rl α} {as : List α} {ds : List D} (h : All2 r as ds) {i : Int} : fD ds.length i = fD as.length i := by rw [h.len]
theorem bM (i : Nat) {get : S -> α} {put : S -> α -> S} {r : Rl α} (hg : autoParam (∀ s v, get (put s v) = v) nZ._auto_1) (hf : autoParam (∀ v, Fr (fun s => put s v) (Z.set i none)) nk._auto_1) (hi : autoParam (i < Z.length) cz._auto_1) : JG Z (cm i) put r (Z.set i (some ⟨get, r⟩)) := fun s σ v d hs h => by
 have hl : i < σ.length := by rw [hs.len]; exact hi
 exact ⟨_, by simp only [cm, hl, if_true], hs.put hg hf h⟩
theorem xF {g1 g2 : DG} {p1 : S -> α -> S} {p2 : S -> β -> S} {ra : Rl α} {rb : Rl β} (h1 : JG Z g1 p1 ra Z1) (h2 : JG Z1 g2 p2 rb Z2) : JG Z (er 2 (bJ g1 (bJ g2 eR))) (fun s v => p2 (p1 s v.1) v.2) (gX ra rb) Z2 := fun s σ v d hs hq0 => by
 obtain ⟨x, y, e, hx, hy⟩ := hq0;obtain ⟨σ1, e1, k1⟩ := h1 s σ v.1 x hs hx;obtain ⟨σ2, e2, k2⟩ := h2 _ σ1 v.2 y k1 hy;exact ⟨σ2, by simp only [e, er, bJ, eR, List.length_cons, List.length_nil, e1, e2, bind_some, if_true], k2⟩
theorem jr {g1 g2 g3 : DG} {p1 : S -> α -> S} {p2 : S -> β -> S} {p3 : S -> γ -> S} {ra : Rl α} {rb : Rl β} {rc : Rl γ} (h1 : JG Z g1 p1 ra Z1) (h2 : JG Z1 g2 p2 rb Z2) (h3 : JG Z2 g3 p3 rc Z3) : JG Z (er 3 (bJ g1 (bJ g2 (bJ g3 eR)))) (fun s v => p3 (p2 (p1 s v.1) v.2.1) v.2.2) (aa ra rb rc) Z3 := fun s σ v d hs hq0 => by
 obtain ⟨x, y, z, e, hx, hy, hz⟩ := hq0;obtain ⟨σ1, e1, k1⟩ := h1 s σ v.1 x hs hx;obtain ⟨σ2, e2, k2⟩ := h2 _ σ1 v.2.1 y k1 hy;obtain ⟨σ3, e3, k3⟩ := h3 _ σ2 v.2.2 z k2 hz;exact ⟨σ3, by simp only [e, er, bJ, eR, List.length_cons, List.length_nil, e1, e2, e3, bind_some, if_true], k3⟩
theorem nB {r : Rl α} {g : DG} {put : S -> α -> S} {f : S -> Option (α × S)} (h : JE Z c f r Z1) (hg : JG Z1 g put r Z2) : JS Z (gG c g) (fun s => (f s).map fun p => .nx (put p.2 p.1)) Z2 E := fun s σ v hs e => by
 obtain ⟨⟨a, s1⟩, e1, e2⟩ := mp e;cases e2;obtain ⟨d, σ1, h1, h2, h3⟩ := h s σ a s1 hs e1;obtain ⟨σ2, h4, h5⟩ := hg s1 σ1 a d h3 h2;exact ⟨.nx σ2, by simp only [gG, h1, bind_some, h4, map_some], h5⟩
theorem lM (i : Nat) {get : S -> List α} {put : S -> List α -> S} {r : Rl α} {q : DP} {fq : S -> Option Int} {f : S -> Option (α × S)} (h : JE Z c f r Z1) (hq : JP Z1 q fq rI) (h0 : Z1[i]? = some (some ⟨get, rL r⟩)) (hg : autoParam (∀ s v, get (put s v) = v) nZ._auto_1) (hf : autoParam (∀ v, Fr (fun s => put s v) (Z1.set i none)) nk._auto_1) :
  JS Z (gG c (lm i [] q)) (fun s => (f s).bind fun p => (fq p.2).bind fun kk => (fD (get p.2).length kk).map fun j => .nx (put p.2 ((get p.2).set j p.1))) (Z1.set i (some ⟨get, rL r⟩)) E := fun s σ v hs e => by
 obtain ⟨⟨a, s1⟩, e1, e⟩ := bd e;obtain ⟨kk, e2, e⟩ := bd e;obtain ⟨j, e3, e⟩ := mp e;cases e;obtain ⟨d, σ1, h1, h2, h3⟩ := h s σ a s1 hs e1;obtain ⟨dq, hdq, rq⟩ := hq s1 σ1 kk h3 e2;cases rq;obtain ⟨d', hd, ds, rfl, h4⟩ := h3.get h0;dsimp only at e3;exact ⟨.nx _, by simp only [gG, h1, bind_some, lm, hd, vK, iB, hdq, h4.ix, e3, map_some, jE], h3.put hg hf ⟨_, rfl, h4.set h2⟩⟩
theorem d6 {rl : Rl (List α)} {r r' : Rl α} [l : Ls rl r] [k : Fz r r'] {f : S -> Option (List α × S)} (h : JE Z c f rl Z1) : JI Z (fv c) f r' Z1 := fun s σ v s' hs e => by
 obtain ⟨d, σ1, h1, h2, h3⟩ := h s σ v s' hs e;obtain ⟨o, ds, rfl, h⟩ := l.l v d h2;exact ⟨_, σ1, by simp only [fv, h1, bind_some], h.fz k.f, h3⟩
noncomputable def rng (lo hi : Int) : List Int := (List.range (hi - lo).toNat).map fun (k : Nat) => lo + k
theorem uP (lo hi : Int) : All2 rI (rng lo hi) (iX lo hi) := by unfold rng iX; exact All2.ofMap (r := rI) (f := fun (k : Nat) => lo + k) (g := fun (k : Nat) => D.int (lo + k)) (fun _ => rfl) _
theorem fK {f : S -> Option (Int × S)} (h : JE Z c f rI Z1) : JI Z (im (ag c aW)) (fun s => (f s).bind fun p => if iy p.1 = true then some (rng 0 p.1, p.2) else none) rI Z1 := fun s σ v s' hs e => by
 obtain ⟨⟨a, s1⟩, e1, e⟩ := bd e;dsimp only at e;split at e
 ·rename_i hl
  cases e;obtain ⟨d, σ1, h1, h2, h3⟩ := h s σ a _ hs e1;cases h2;refine ⟨_, σ1, ?_, uP _ _, h3⟩;simp only [im, ag, aW, h1, bind_some, map_some];exact if_pos (oi hl)
 ·cases e
theorem ul {f g : S -> Option (Int × S)} (h : JE Z c f rI Z1) (h' : JE Z1 c' g rI Z2) : JI Z (qW (ag c (ag c' aW))) (fun s => (f s).bind fun p => (g p.2).bind fun q => if (iy p.1 && iy q.1) = true then some (rng p.1 q.1, q.2) else none) rI Z2 := fun s σ v s' hs e => by
 obtain ⟨⟨a, s1⟩, e1, e⟩ := bd e;obtain ⟨⟨b, s2⟩, e2, e⟩ := bd e;dsimp only at e;split at e
 ·rename_i hl
  cases e;obtain ⟨d, σ1, h1, h2, h3⟩ := h s σ a s1 hs e1;obtain ⟨d', σ2, h4, h5, h6⟩ := h' s1 σ1 b _ h3 e2;cases h2; cases h5;refine ⟨_, σ2, ?_, uP _ _, h6⟩;simp only [qW, ag, aW, h1, h4, bind_some, map_some];simp only [Bool.and_eq_true] at hl;exact if_pos (by rw [oi hl.1, oi hl.2]; rfl)
 ·cases e
noncomputable def dc (put : S -> α -> S) (b : S -> Option (TR S ρ)) : List α -> S -> Option (TR S ρ)
 | [], s => some (.nx s)
 | x :: xs, s => (b (put s x)).bind fun o => match o with
  | .nx s2 => dc put b xs s2
  | .ct s2 => dc put b xs s2
  | .bk s2 => some (.nx s2)
  | .rt d s2 => some (.rt d s2)
theorem yO {g : DG} {put : S -> α -> S} {r : Rl α} {b : DS} {fb : S -> Option (TR S ρ)} {Zx Zb : bc S} (hg : JG Zh g put r Zx) (hb : JS Zx b fb Zb ⟨E.rt, E.ro, Zh⟩) (lb : Le Zb Zh) : ∀ {xs : List α} {ds : List D} {s : S} {σ : aZ} {t : TR S ρ}, All2 r xs ds -> Sat Zh s σ -> dc put fb xs s = some t -> ∃ o, eS g b ds σ = some o /\ Rs Zh E t o := by
 intro xs ds s σ t h0
 induction h0 generalizing s σ t with
 | nil => intro hs e; cases e; exact ⟨_, rfl, hs⟩
 | cons h1 h2 ih =>
  intro hs e;simp only [dc] at e;obtain ⟨o, e1, e⟩ := bd e;obtain ⟨σ1, g1, k1⟩ := hg s σ _ _ hs h1;obtain ⟨o', b1, r1⟩ := hb _ σ1 o k1 e1;cases o with
  | nx s2 =>
   cases o' with
   | nx σ2 =>
    obtain ⟨o2, c1, c2⟩ := ih (lb.sat r1) e;exact ⟨o2, by simp only [eS, g1, bind_some, b1, c1], c2⟩
   | _ => exact r1.elim
  | ct s2 =>
   cases o' with
   | ct σ2 =>
    obtain ⟨o2, c1, c2⟩ := ih r1 e;exact ⟨o2, by simp only [eS, g1, bind_some, b1, c1], c2⟩
   | _ => exact r1.elim
  | bk s2 =>
   cases e;cases o' with
   | bk σ2 => exact ⟨.nx σ2, by simp only [eS, g1, bind_some, b1], r1⟩
   | _ => exact r1.elim
  | rt d s2 =>
   cases e;cases o' with
   | rt d' σ2 => exact ⟨.rt d' σ2, by simp only [eS, g1, bind_some, b1], r1⟩
   | _ => exact r1.elim
theorem cS {i : DI} {g : DG} {put : S -> α -> S} {r : Rl α} {b : DS} {fi : S -> Option (List α × S)} {fb : S -> Option (TR S ρ)} {Zx Zb : bc S} (hi : JI Z i fi r Z1) (l : Le Z1 Zh) (hg : JG Zh g put r Zx) (hb : JS Zx b fb Zb ⟨E.rt, E.ro, Zh⟩) (lb : autoParam (Le Zb Zh) jC._auto_1) :
  JS Z (cU i g b) (fun s => (fi s).bind fun p => dc put fb p.1 p.2) Zh E := fun s σ v hs e => by
 obtain ⟨⟨xs, s1⟩, e1, e⟩ := bd e;obtain ⟨ds, σ1, h1, h2, h3⟩ := hi s σ xs s1 hs e1;obtain ⟨o, h4, h5⟩ := yO hg hb lb h2 (l.sat h3) e;exact ⟨o, by simp only [cU, h1, bind_some, h4], h5⟩
end
section
variable {S : Type} {α β γ δ ρ : Type} {Z Z0 Z1 Z2 Z3 Z4 Z' Zn Zh : bc S} {c c' : DE} {t u : DT} {E : Ex S ρ}
theorem Sat.app : ∀ {Z Δ : bc S} {s : S} {σ τ : aZ}, Sat Z s σ -> Sat Δ s τ -> Sat (Z ++ Δ) s (σ ++ τ)
 | [], _, _, [], _, _, h => h
 | _ :: Z, _, _, _ :: σ, _, h, k => ⟨h.1, Sat.app h.2 k⟩
 | [], _, _, _ :: _, _, h, _ => h.elim
 | _ :: _, _, _, [], _, h, _ => h.elim
theorem Sat.split : ∀ {Z Δ : bc S} {s : S} {σ : aZ}, Sat (Z ++ Δ) s σ -> ∃ σ1 σ2, σ = σ1 ++ σ2 /\ Sat Z s σ1 /\ Sat Δ s σ2
 | [], _, _, σ, h => ⟨[], σ, rfl, trivial, h⟩
 | _ :: Z, _, _, x :: σ, h => by
  obtain ⟨σ1, σ2, e, h1, h2⟩ := Sat.split (Z := Z) h.2;exact ⟨x :: σ1, σ2, by rw [e]; rfl, ⟨h.1, h1⟩, h2⟩
 | _ :: _, _, _, [], h => h.elim
theorem Sat.non {s : S} : ∀ {k : Nat} {σ : aZ}, σ.length = k -> Sat (List.replicate k none) s σ
 | 0, [], _ => trivial
 | k + 1, _ :: σ, h => ⟨trivial, Sat.non (k := k) (by simpa using h)⟩
noncomputable def tLc (ft : α -> S -> Option (Bool × S)) (fe : α -> S -> Option (β × S)) : List α -> S -> Option (List β × S)
 | [], s => some ([], s)
 | x :: xs, s => (ft x s).bind fun p => if p.1 = true then (fe x p.2).bind fun q => (tLc ft fe xs q.2).map fun r => (q.1 :: r.1, r.2) else tLc ft fe xs p.2
noncomputable def AW (Z : bc S) (k : Nat) (g : DG) (r : Rl α) (Δ : α -> bc S) : Prop := ∀ s σ v d, Sat (Z ++ List.replicate k none) s σ -> r v d -> ∃ σ', g d σ = some σ' /\ Sat (Z ++ Δ v) s σ'
theorem yf {A : List (Option D)} {a b : Option D} {B : aZ} : (A ++ a :: B).set A.length b = A ++ b :: B := by
 rw [List.set_append_right _ _ (Nat.le_refl _)]; simp
theorem km {r : Rl α} (i : Nat) (hi : i = Z.length) : AW Z 1 (cm i) r (fun v => [some ⟨fun _ => v, r⟩]) := fun s σ v d hs h => by
 obtain ⟨σ1, σ2, rfl, h1, h2⟩ := hs.split
 match σ2, h2 with
 | [o], _ =>
  have hl : σ1.length = i := by rw [h1.len, hi]
  have hl2 : i < (σ1 ++ [o]).length := by simp [hl]
  refine ⟨σ1 ++ [some d], ?_, h1.app ⟨⟨d, rfl, h⟩, trivial⟩⟩;simp only [cm, hl2, if_true];rw [<- hl, yf]
theorem Bz {k : Nat} {g : DG} {r : Rl α} {re : Rl β} {Δ : α -> bc S} {ft : α -> S -> Option (Bool × S)} {fe : α -> S -> Option (β × S)} {Zt Ze : α -> bc S} (hg : AW Zh k g r Δ) (ht : ∀ x, JT (Zh ++ Δ x) t (ft x) (Zt x)) (l1 : ∀ x, Le (Zt x) (Zh ++ List.replicate k none)) (he : ∀ x, JE (Zt x) c (fe x) re (Ze x)) (l2 : ∀ x, Le (Ze x) (Zh ++ List.replicate k none)) :
  ∀ {xs : List α} {ds : List D} {s : S} {σ : aZ} {ys : List β} {s' : S}, All2 r xs ds -> Sat (Zh ++ List.replicate k none) s σ -> tLc ft fe xs s = some (ys, s') -> ∃ es σ', jH g t c ds σ = some (es, σ') /\ All2 re ys es /\ Sat (Zh ++ List.replicate k none) s' σ' := by
 intro xs ds s σ ys s' h0
 induction h0 generalizing s σ ys s' with
 | nil => intro hs e; cases e; exact ⟨[], σ, rfl, .nil, hs⟩
 | cons h1 h2 ih =>
  intro hs e;simp only [tLc] at e;obtain ⟨⟨b, s1⟩, e1, e⟩ := bd e;obtain ⟨σ1, g1, k1⟩ := hg s σ _ _ hs h1;obtain ⟨σ2, g2, k2⟩ := ht _ s σ1 b s1 k1 e1;cases b
  ·simp only [Bool.false_eq_true, if_false] at e
   obtain ⟨es, σ3, g3, r3, k3⟩ := ih ((l1 _).sat k2) e;exact ⟨es, σ3, by simp only [jH, g1, bind_some, g2, Bool.false_eq_true, if_false, g3], r3, k3⟩
  ·simp only [if_true] at e
   obtain ⟨⟨v, s2⟩, e2, e⟩ := bd e;obtain ⟨⟨w, s3⟩, e3, e⟩ := mp e;cases e;obtain ⟨d, σ3, g3, r3, k3⟩ := he _ s1 σ2 v s2 k2 e2;obtain ⟨es, σ4, g4, r4, k4⟩ := ih ((l2 _).sat k3) e3;exact ⟨d :: es, σ4, by simp only [jH, g1, bind_some, g2, if_true, g3, g4, map_some], .cons r3 r4, k4⟩
theorem iK {k : Nat} {i : DI} {g : DG} {r : Rl α} {re : Rl β} {Δ : α -> bc S} {fi : S -> Option (List α × S)} {ft : α -> S -> Option (Bool × S)} {fe : α -> S -> Option (β × S)} {Zt Ze : α -> bc S} (hi : JI Z i fi r Z1) (l : Le Z1 Zh) (hg : AW Zh k g r Δ) (ht : ∀ x, JT (Zh ++ Δ x) t (ft x) (Zt x)) (he : ∀ x, JE (Zt x) c (fe x) re (Ze x)) (l1 : autoParam (∀ x, Le (Zt x) (Zh ++ List.replicate k none)) A0._auto_1) (l2 : autoParam (∀ x, Le (Ze x) (Zh ++ List.replicate k none)) A0._auto_1) :
  JE Z (gZ k i g t c) (fun s => (fi s).bind fun p => if gE (p.1.length) = true then tLc ft fe p.1 p.2 else none) (rL re) Zh := fun s σ v s' hs e => by
 obtain ⟨⟨xs, s1⟩, e1, e⟩ := bd e;obtain ⟨ds, σ1, h1, h2, h3⟩ := hi s σ xs s1 hs e1;dsimp only at e;split at e
 ·rename_i hl
  have hl := jL hl;have h4 := l.sat h3;obtain ⟨es, σ2, g2, r2, k2⟩ := Bz hg ht l1 he l2 h2 (h4.app (Sat.non (k := k) (σ := List.replicate k none) (by simp))) e;obtain ⟨σa, σb, rfl, ka, kb⟩ := k2.split;refine ⟨_, σa, ?_, ⟨es, rfl, r2⟩, ka⟩;have hl2 : ds.length <= sizeLine := by rw [<- h2.len]; exact hl
  have hlen : σ1.length = σa.length := by rw [h4.len, ka.len]
  simp only [gZ, h1, bind_some, hl2, if_true, g2, map_some, hlen, List.take_left]
 ·cases e
noncomputable def fB (ft : S -> Option (Bool × S)) (fb : S -> Option (TR S ρ)) : Nat -> S -> Option (TR S ρ)
 | 0, _ => none
 | n + 1, s => (ft s).bind fun p => if p.1 = true then (fb p.2).bind fun o => match o with
  | .nx s2 => fB ft fb n s2
  | .ct s2 => fB ft fb n s2
  | .bk s2 => some (.nx s2)
  | .rt d s2 => some (.rt d s2) else some (.nx p.2)
theorem tN {b : DS} {ft : S -> Option (Bool × S)} {fb : S -> Option (TR S ρ)} {Zb : bc S} (ht : JT Zh t ft Z1) (hb : JS Z1 b fb Zb ⟨E.rt, E.ro, Zh⟩) (lb : Le Zb Zh) (le : Le Z1 Zh) : ∀ {n : Nat} {s : S} {σ : aZ} {v : TR S ρ}, Sat Zh s σ -> fB ft fb n s = some v -> ∃ o, kD t b n σ = some o /\ Rs Zh E v o
 | 0, _, _, _, _, e => by cases e
 | n + 1, s, σ, v, hs, e => by
  simp only [fB] at e;obtain ⟨⟨q, s1⟩, e1, e⟩ := bd e;obtain ⟨σ1, g1, k1⟩ := ht s σ q s1 hs e1;cases q
  ·simp only [Bool.false_eq_true, if_false] at e
   cases e;exact ⟨.nx σ1, by simp only [kD, g1, bind_some, Bool.false_eq_true, if_false], le.sat k1⟩
  ·simp only [if_true] at e
   obtain ⟨o, e2, e⟩ := bd e;obtain ⟨o', b1, r1⟩ := hb _ σ1 o k1 e2;cases o with
   | nx s2 =>
    cases o' with
    | nx σ2 =>
     obtain ⟨o2, c1, c2⟩ := tN ht hb lb le (lb.sat r1) e;exact ⟨o2, by simp only [kD, g1, bind_some, b1, c1, if_true], c2⟩
    | _ => exact r1.elim
   | ct s2 =>
    cases o' with
    | ct σ2 =>
     obtain ⟨o2, c1, c2⟩ := tN ht hb lb le r1 e;exact ⟨o2, by simp only [kD, g1, bind_some, b1, c1, if_true], c2⟩
    | _ => exact r1.elim
   | bk s2 =>
    cases e;cases o' with
    | bk σ2 => exact ⟨.nx σ2, by simp only [kD, g1, bind_some, b1, if_true], r1⟩
    | _ => exact r1.elim
   | rt d s2 =>
    cases e;cases o' with
    | rt d' σ2 => exact ⟨.rt d' σ2, by simp only [kD, g1, bind_some, b1, if_true], r1⟩
    | _ => exact r1.elim
theorem mT {n : Nat} {b : DS} {ft : S -> Option (Bool × S)} {fb : S -> Option (TR S ρ)} {Zb : bc S} (l : Le Z Zh) (ht : JT Zh t ft Z1) (hb : JS Z1 b fb Zb ⟨E.rt, E.ro, Zh⟩) (lb : autoParam (Le Zb Zh) jC._auto_1) (le : autoParam (Le Z1 Zh) jC._auto_1) : JS Z (sC (fun _ => n) t b) (fB ft fb n) Zh E := fun s σ v hs e => tN ht hb lb le (l.sat hs) e
noncomputable def Pn : Unit -> List D -> Prop := fun _ ds => ds = []
noncomputable def Pc (r : Rl α) (P : β -> List D -> Prop) : α × β -> List D -> Prop := fun p ds => ∃ d ds', ds = d :: ds' /\ r p.1 d /\ P p.2 ds'
noncomputable def JF {P : Type} (g : GF) (h : P -> Option (ρ × P)) (PI : P -> List D -> Prop) (ro : Rl ρ) (PO : P -> List D -> Prop) : Prop := ∀ p ds v q, PI p ds -> h p = some (v, q) -> ∃ d ds', g ds = some (d, ds') /\ ro v d /\ PO q ds'
noncomputable def tJ {A : Type} (Z : bc S) (as : List DD.Arg) (f : S -> Option (A × S)) (oe : A -> List (Option D) -> Prop) (Z' : bc S) : Prop := ∀ s σ a s', Sat Z s σ -> f s = some (a, s') -> ∃ os σ', mf as σ = some (os, σ') /\ oe a os /\ Sat Z' s' σ'
noncomputable def o0 : Unit -> List (Option D) -> Prop := fun _ os => os = []
noncomputable def oB {A : Type} (oe : A -> List (Option D) -> Prop) : A -> List (Option D) -> Prop := fun a os => ∃ o', os = none :: o' /\ oe a o'
noncomputable def oX {A : Type} (r : Rl α) (oe : A -> List (Option D) -> Prop) : α × A -> List (Option D) -> Prop := fun a os => ∃ d o', os = some d :: o' /\ r a.1 d /\ oe a.2 o'
theorem aR : tJ Z [] (fun s => some ((), s)) o0 Z := fun s σ a s' hs e => by cases e; exact ⟨[], σ, rfl, rfl, hs⟩
theorem ao {A : Type} (i : Nat) {as : List DD.Arg} {f : S -> Option (A × S)} {oe : A -> List (Option D) -> Prop} {l : Sl S} (hi : Z[i]? = some (some l)) (h : tJ Z as f oe Z') : tJ Z (.bo i :: as) f (oB oe) Z' := fun s σ a s' hs e => by
 obtain ⟨os, σ', h1, h2, h3⟩ := h s σ a s' hs e;obtain ⟨d, hd, _⟩ := hs.get hi;exact ⟨none :: os, σ', by simp only [mf, hd, bind_some, h1, map_some], ⟨os, rfl, h2⟩, h3⟩
theorem cj {A : Type} {as : List DD.Arg} {f1 : S -> Option (α × S)} {f : S -> Option (A × S)} {oe : A -> List (Option D) -> Prop} {r : Rl α} (h0 : JE Z c f1 r Z1) (h : tJ Z1 as f oe Z') : tJ Z (.ex c :: as) (fun s => (f1 s).bind fun p => (f p.2).map fun q => ((p.1, q.1), q.2)) (oX r oe) Z' := fun s σ a s' hs e => by
 obtain ⟨⟨v, s1⟩, e1, e⟩ := bd e;obtain ⟨⟨b, s2⟩, e2, e⟩ := mp e;cases e;obtain ⟨d, σ1, g1, r1, k1⟩ := h0 s σ v s1 hs e1;obtain ⟨os, σ', h1, h2, h3⟩ := h s1 σ1 b s2 k1 e2;exact ⟨some d :: os, σ', by simp only [mf, g1, bind_some, h1, map_some], ⟨d, os, rfl, r1, h2⟩, h3⟩
noncomputable def pS {A P : Type} (Z : bc S) (as : List DD.Arg) (oe : A -> List (Option D) -> Prop) (pk : A -> S -> P) (PI : P -> List D -> Prop) (Z' : bc S) : Prop := ∀ s σ a os, Sat Z s σ -> oe a os -> ∃ ds σ', fL as os σ = some (ds, σ') /\ PI (pk a s) ds /\ Sat Z' s σ'
theorem aQ : pS Z [] o0 (fun _ _ => ()) Pn Z := fun s σ a os hs e => by cases e; exact ⟨[], σ, rfl, rfl, hs⟩
theorem aK {A P : Type} (i : Nat) {as : List DD.Arg} {oe : A -> List (Option D) -> Prop} {pk : A -> S -> P} {PI : P -> List D -> Prop} {get : S -> α} {r r' : Rl α} [k : Sc r] [w : Wk r r'] (hi : Z[i]? = some (some ⟨get, r⟩)) (h : pS Z as oe pk PI Z') : pS Z (.bo i :: as) (oB oe) (fun a s => (get s, pk a s)) (Pc r' PI) Z' := fun s σ a os hs hq0 => by
 obtain ⟨o', e, ho⟩ := hq0;obtain ⟨ds, σ', h1, h2, h3⟩ := h s σ a o' hs ho;obtain ⟨d, hd, rd⟩ := hs.get hi;obtain ⟨v, hv⟩ := k.s _ _ rd;exact ⟨d :: ds, σ', by simp only [e, fL, hd, bind_some, hv, h1, map_some], ⟨d, ds, rfl, w.w _ _ rd, h2⟩, h3⟩
theorem bU {A P : Type} (i : Nat) {as : List DD.Arg} {oe : A -> List (Option D) -> Prop} {pk : A -> S -> P} {PI : P -> List D -> Prop} {get : S -> α} {r r' : Rl α} [k : Ns r] [w : Wk r r'] (hi : Z[i]? = some (some ⟨get, r⟩)) (h : pS (Z.set i none) as oe pk PI Z') : pS Z (.bo i :: as) (oB oe) (fun a s => (get s, pk a s)) (Pc r' PI) Z' := fun s σ a os hs hq0 => by
 obtain ⟨o', e, ho⟩ := hq0;obtain ⟨d, hd, rd⟩ := hs.get hi;obtain ⟨ds, σ', h1, h2, h3⟩ := h s (σ.set i none) a o' hs.setn ho;have hv := k.s _ _ rd;exact ⟨d :: ds, σ', by simp only [e, fL, hd, bind_some, hv, h1, map_some], ⟨d, ds, rfl, w.w _ _ rd, h2⟩, h3⟩
theorem cg {A P : Type} {as : List DD.Arg} {oe : A -> List (Option D) -> Prop} {pk : A -> S -> P} {PI : P -> List D -> Prop} {r r' : Rl α} [w : Wk r r'] (h : pS Z as oe pk PI Z') : pS Z (.ex c :: as) (oX r oe) (fun a s => (a.1, pk a.2 s)) (Pc r' PI) Z' := fun s σ a os hs hq0 => by
 obtain ⟨d, o', e, rd, ho⟩ := hq0;obtain ⟨ds, σ', h1, h2, h3⟩ := h s σ a.2 o' hs ho;exact ⟨d :: ds, σ', by simp only [e, fL, h1, map_some], ⟨d, ds, rfl, w.w _ _ rd, h2⟩, h3⟩
noncomputable def pR {P : Type} (Z : bc S) (as : List DD.Arg) (PO : P -> List D -> Prop) (u : S -> P -> S) (Z' : bc S) : Prop := ∀ s σ q ds, Sat Z s σ -> PO q ds -> Sat Z' (u s q) (ib as ds σ)
theorem aP : pR Z [] Pn (fun s _ => s) Z := fun s σ q ds hs e => by cases e; exact hs
theorem aJ {P : Type} (i : Nat) {as : List DD.Arg} {PO : P -> List D -> Prop} {u : S -> P -> S} {r : Rl α} [k : Sc r] (h : pR Z as PO u Z') : pR Z (.bo i :: as) (Pc r PO) (fun s q => u s q.2) Z' := fun s σ q ds hs hq0 => by
 obtain ⟨d, ds', e, rd, hp⟩ := hq0;obtain ⟨v, hv⟩ := k.s _ _ rd;simp only [e, ib, hv];exact h s σ q.2 ds' hs hp
theorem bT {P : Type} (i : Nat) {as : List DD.Arg} {PO : P -> List D -> Prop} {u : S -> P -> S} {get : S -> α} {put : S -> α -> S} {r : Rl α} [k : Ns r] (hg : autoParam (∀ s v, get (put s v) = v) nZ._auto_1) (hf : autoParam (∀ v, Fr (fun s => put s v) (Z.set i none)) nk._auto_1) (h : pR (Z.set i (some ⟨get, r⟩)) as PO u Z') : pR Z (.bo i :: as) (Pc r PO) (fun s q => u (put s q.1) q.2) Z' := fun s σ q ds hs hq0 => by
 obtain ⟨d, ds', e, rd, hp⟩ := hq0;have hv := k.s _ _ rd;simp only [e, ib, hv];exact h _ _ q.2 ds' (hs.put hg hf rd) hp
theorem cf {P : Type} {as : List DD.Arg} {PO : P -> List D -> Prop} {u : S -> P -> S} {r : Rl α} (h : pR Z as PO u Z') : pR Z (.ex c :: as) (Pc r PO) (fun s q => u s q.2) Z' := fun s σ q ds hs hq0 => by
 obtain ⟨d, ds', e, rd, hp⟩ := hq0;simp only [e, ib];exact h s σ q.2 ds' hs hp
theorem aO {A P : Type} {g : GF} {h : P -> Option (ρ × P)} {as : List DD.Arg} {f : S -> Option (A × S)} {oe : A -> List (Option D) -> Prop} {pk : A -> S -> P} {PI PO : P -> List D -> Prop} {ro : Rl ρ} {u : S -> P -> S} (hF : JF g h PI ro PO) (h1 : tJ Z as f oe Z1) (h2 : pS Z1 as oe pk PI Z2) (h3 : pR Z2 as PO u Z3) :
  JE Z (bf g as) (fun s => (f s).bind fun p => (h (pk p.1 p.2)).map fun q => (q.1, u p.2 q.2)) ro Z3 := fun s σ v s' hs e => by
 obtain ⟨⟨a, s1⟩, e1, e⟩ := bd e;obtain ⟨⟨w, q⟩, e2, e⟩ := mp e;obtain ⟨rfl, rfl⟩ := Prod.mk.inj e;obtain ⟨os, σ1, g1, r1, k1⟩ := h1 s σ a s1 hs e1;obtain ⟨ds, σ2, g2, r2, k2⟩ := h2 s1 σ1 a os k1 r1;obtain ⟨d, ds', g3, r3, k3⟩ := hF _ _ _ _ r2 e2;exact ⟨d, _, by simp only [bf, g1, bind_some, g2, g3, map_some], r3, h3 s1 σ2 q ds' k2 k3⟩
end
section
variable {S : Type} {α β γ δ ρ : Type} {P Q : Type}
noncomputable def xT (W : List Nat) (k : Nat) (PI : P -> List D -> Prop) (Z : bc Q) (pr : P -> Q) : Prop := ∀ p ds, PI p ds -> Sat Z (pr p) ((kB W k ds).map some) /\ ds.length = Z.length
theorem bZ {W : List Nat} {k : Nat} {pr : Unit -> Q} : xT W k Pn ([] : bc Q) pr := fun p ds h => by cases h; exact ⟨trivial, rfl⟩
theorem aA {W : List Nat} {k : Nat} {PI : P -> List D -> Prop} {Z : bc Q} {r : Rl α} {get : Q -> α} {pr : α × P -> Q} (hk : k ∉ W) (h0 : ∀ p, get (pr p) = p.1) (h : ∀ a, xT W (k + 1) PI Z (fun p => pr (a, p))) : xT W k (Pc r PI) (some ⟨get, r⟩ :: Z) pr := fun p ds hq0 => by
 obtain ⟨d, ds', e, rd, hp⟩ := hq0;obtain ⟨h1, h2⟩ := h p.1 p.2 ds' hp;refine ⟨?_, by simp [e, h2]⟩;simp only [e, kB, hk, if_false, List.map_cons];exact ⟨⟨d, rfl, by rw [show (Sl.mk get r).get = get from rfl, h0]; exact rd⟩, h1⟩
noncomputable def xS (W : List Nat) (k : Nat) (PI : P -> List D -> Prop) (Zr : bc S) (fin : P -> S -> P) (PO : P -> List D -> Prop) : Prop := ∀ p ds s σ, PI p ds -> Sat Zr s σ -> PO (fin p s) (gK W σ k ds)
theorem bP {W : List Nat} {k : Nat} {Zr : bc S} : xS W k Pn Zr (fun p _ => p) Pn := fun p ds s σ h _ => by cases h; rfl
theorem au {W : List Nat} {k : Nat} {PI PO : P -> List D -> Prop} {Zr : bc S} {fin : P -> S -> P} {r q : Rl α} {get : S -> α} (hk : k ∉ W) (hi : Zr[k]? = some (some ⟨get, q⟩)) (h : xS W (k + 1) PI Zr fin PO) : xS W k (Pc r PI) Zr (fun p s => (get s, fin p.2 s)) (Pc q PO) := fun p ds s σ hq0 hs => by
 obtain ⟨d, ds', e, rd, hp⟩ := hq0;obtain ⟨d', hd, rd'⟩ := hs.get hi;exact ⟨d', _, by simp only [e, gK, hk, if_false, hd, Option.getD_some], rd', h p.2 ds' s σ hp hs⟩
theorem cV {N : Nat} {W : List Nat} {c : DS} {Zp Zn Zr : bc S} {f : S -> Option (TR S ρ)} {init : P -> S} {fin : P -> S -> P} {PI PO : P -> List D -> Prop} {ro : Rl ρ} (hi : xT W 0 PI Zp init) (hb : JS (Zp ++ List.replicate (N - Zp.length) none) c f Zn ⟨Zr, ro, []⟩) (ho : xS W 0 PI Zr fin PO) :
  JF (d9 N W c) (fun p => (f (init p)).bind fun t => match t with | .rt v s => some (v, fin p s) | _ => none) PI ro PO := fun p ds v q hp e => by
 obtain ⟨t, e1, e⟩ := bd e;obtain ⟨h1, h2⟩ := hi p ds hp;have hs := h1.app (Sat.non (s := init p) (k := N - Zp.length) (σ := List.replicate (N - Zp.length) none) (by simp));obtain ⟨o, ho1, ro1⟩ := hb _ _ t hs e1;cases t with
 | rt w s =>
  cases e;cases o with
  | rt d σ => exact ⟨d, _, by simp only [d9, h2, ho1, bind_some], ro1.1, ho p ds s σ hp ro1.2⟩
  | _ => exact ro1.elim
 | _ => cases e
end
section
variable {S : Type} {α β γ δ ρ : Type} {Z Z0 Z1 Z2 Z3 Z4 Z' Zn Zh : bc S} {c c' : DE} {t u : DT} {E : Ex S ρ}
theorem qa {r : Rl α} : JP Z (iz []) (fun _ => some []) (rL r) := fun s σ v hs e => by
 cases e;exact ⟨.lst true [], by simp only [iz, j0, bind_some, List.length_nil, Nat.zero_le, if_true], [], rfl, .nil⟩
noncomputable def xQ (Z : bc S) (ps : List DP) (f : S -> Option (List α)) (r : Rl α) : Prop := ∀ s σ v, Sat Z s σ -> f s = some v -> ∃ ds, j0 ps σ = some ds /\ All2 r v ds
theorem sN {r : Rl α} : xQ Z [] (fun _ => some []) r := fun s σ v hs e => by cases e; exact ⟨[], rfl, .nil⟩
theorem kl {r : Rl α} {p : DP} {ps : List DP} {f : S -> Option α} {g : S -> Option (List α)} (h : JP Z p f r) (k : xQ Z ps g r) : xQ Z (p :: ps) (fun s => (f s).bind fun a => (g s).map fun as => a :: as) r := fun s σ v hs e => by
 obtain ⟨a, e1, e⟩ := bd e;obtain ⟨as, e2, e⟩ := mp e;cases e;obtain ⟨d, h1, h2⟩ := h s σ a hs e1;obtain ⟨ds, h3, h4⟩ := k s σ as hs e2;exact ⟨d :: ds, by simp only [j0, h1, h3, bind_some, map_some], .cons h2 h4⟩
theorem vy {r : Rl α} {ps : List DP} {f : S -> Option (List α)} (h : xQ Z ps f r) : JP Z (iz ps) (fun s => (f s).bind fun xs => if gE (xs.length) = true then some xs else none) (rL r) := fun s σ v hs e => by
 obtain ⟨a, e1, e⟩ := bd e;obtain ⟨ds, h3, h4⟩ := h s σ a hs e1;split at e
 ·rename_i hl
  have hl := jL hl;cases e;exact ⟨.lst true ds, by simp only [iz, h3, bind_some, <- h4.len, hl, if_true], ds, rfl, h4⟩
 ·cases e
noncomputable def Ln (R : Rl α) (k : Int) (π : α -> β) (up : α -> β -> α) (q : Rl β) : Prop := ∀ a d, R a d -> ∃ x, iB d [k] = some x /\ q (π a) x /\ ∀ v y, q v y -> R (up a v) (jE d [k] y)
theorem C0 {r : Rl α} {q : Rl β} : Ln (gX r q) 0 (fun p => p.1) (fun p v => (v, p.2)) r := fun _ _ ⟨x, y, e, h1, h2⟩ => ⟨x, by rw [e]; rfl, h1, fun v z hz => ⟨z, y, by rw [e]; rfl, hz, h2⟩⟩
theorem CZ {r : Rl α} {q : Rl β} {t : Rl γ} : Ln (aa r q t) 0 (fun p => p.1) (fun p v => (v, p.2)) r := fun _ _ ⟨x, y, z, e, h1, h2, h3⟩ => ⟨x, by rw [e]; rfl, h1, fun v w hw => ⟨w, y, z, by rw [e]; rfl, hw, h2, h3⟩⟩
theorem ny {x : D} {xs : List D} {p : PyData} {ps : List PyData} (h : x.py = some p) (h' : D.pyL xs = some ps) : D.pyL (x :: xs) = some (p :: ps) := by simp only [D.pyL, h, h', bind_some, map_some]
theorem zJ {xs : List D} {ps : List PyData} (h : D.pyL xs = some ps) : (D.tup xs).py = some (.tuple ps) := by simp only [D.py, h, map_some]
theorem kj {p : PyData} {ps : List PyData} (h : p.canLay0 = true) (h' : PyData.canLayAll0 ps = true) : PyData.canLayAll0 (p :: ps) = true := by simp only [PyData.canLayAll0, h, h', Bool.and_self]
theorem layT {ps : List PyData} (h : PyData.canLayAll0 ps = true) : (PyData.tuple ps).canLay0 = true := by simp only [PyData.canLay0, h]
theorem nO {p : PyData} {ps : List PyData} {k : Nat} (h : p.depth <= k) (h' : PyData.depthAll ps <= k) : PyData.depthAll (p :: ps) <= k := by simp only [PyData.depthAll]; omega
theorem AK {k : Nat} : PyData.depthAll [] <= k := by simp only [PyData.depthAll]; omega
theorem AJ {ps : List PyData} {k : Nat} (h : PyData.depthAll ps <= k) : (PyData.tuple ps).depth <= k + 1 := by simp only [PyData.depth]; omega
instance {r : Rl α} {q : Rl β} [k : Py r] [l : Py q] : Py (gX r q) := ⟨fun p => .tuple [Py.pe r p.1, Py.pe q p.2], fun p => Py.ok r p.1 && Py.ok q p.2, max (Py.k r) (Py.k q) + 1,
 fun a d hq0 => by obtain ⟨x, y, e, h1, h2⟩ := hq0; rw [e]; exact zJ (ny (k.py _ _ h1) (ny (l.py _ _ h2) rfl)), fun a h => by
  simp only [Bool.and_eq_true] at h;exact layT (kj (k.lay _ h.1) (kj (l.lay _ h.2) rfl)), fun a h => by
  simp only [Bool.and_eq_true] at h;exact AJ (nO (Nat.le_trans (k.dep a.1 h.1) (Nat.le_max_left _ _)) (nO (Nat.le_trans (l.dep a.2 h.2) (Nat.le_max_right _ _)) AK))⟩
instance {r : Rl α} {q : Rl β} {t : Rl γ} [k : Py r] [l : Py q] [m : Py t] : Py (aa r q t) := ⟨fun p => .tuple [Py.pe r p.1, Py.pe q p.2.1, Py.pe t p.2.2], fun p => Py.ok r p.1 && Py.ok q p.2.1 && Py.ok t p.2.2, max (max (Py.k r) (Py.k q)) (Py.k t) + 1,
 fun a d hq0 => by obtain ⟨x, y, z, e, h1, h2, h3⟩ := hq0; rw [e]; exact zJ (ny (k.py _ _ h1) (ny (l.py _ _ h2) (ny (m.py _ _ h3) rfl))), fun a h => by
  simp only [Bool.and_eq_true] at h;exact layT (kj (k.lay _ h.1.1) (kj (l.lay _ h.1.2) (kj (m.lay _ h.2) rfl))), fun a h => by
  simp only [Bool.and_eq_true] at h;exact AJ (nO (Nat.le_trans (k.dep a.1 h.1.1) (Nat.le_trans (Nat.le_max_left _ _) (Nat.le_max_left _ _))) (nO (Nat.le_trans (l.dep a.2.1 h.1.2) (Nat.le_trans (Nat.le_max_right _ _) (Nat.le_max_left _ _))) (nO (Nat.le_trans (m.dep a.2.2 h.2) (Nat.le_max_right _ _)) AK)))⟩
instance {r : Rl α} {q : Rl β} {t : Rl γ} {u : Rl δ} [k : Py r] [l : Py q] [m : Py t] [n : Py u] : Py (xw r q t u) := ⟨fun p => .tuple [Py.pe r p.1, Py.pe q p.2.1, Py.pe t p.2.2.1, Py.pe u p.2.2.2], fun p => Py.ok r p.1 && Py.ok q p.2.1 && Py.ok t p.2.2.1 && Py.ok u p.2.2.2, max (max (Py.k r) (Py.k q)) (max (Py.k t) (Py.k u)) + 1,
 fun a d hq0 => by obtain ⟨x, y, z, w, e, h1, h2, h3, h4⟩ := hq0; rw [e]; exact zJ (ny (k.py _ _ h1) (ny (l.py _ _ h2) (ny (m.py _ _ h3) (ny (n.py _ _ h4) rfl)))), fun a h => by
  simp only [Bool.and_eq_true] at h;exact layT (kj (k.lay _ h.1.1.1) (kj (l.lay _ h.1.1.2) (kj (m.lay _ h.1.2) (kj (n.lay _ h.2) rfl)))), fun a h => by
  simp only [Bool.and_eq_true] at h;exact AJ (nO (Nat.le_trans (k.dep a.1 h.1.1.1) (Nat.le_trans (Nat.le_max_left _ _) (Nat.le_max_left _ _))) (nO (Nat.le_trans (l.dep a.2.1 h.1.1.2) (Nat.le_trans (Nat.le_max_right _ _) (Nat.le_max_left _ _))) (nO (Nat.le_trans (m.dep a.2.2.1 h.1.2) (Nat.le_trans (Nat.le_max_left _ _) (Nat.le_max_right _ _))) (nO (Nat.le_trans (n.dep a.2.2.2 h.2) (Nat.le_trans (Nat.le_max_right _ _) (Nat.le_max_right _ _))) AK))))⟩
end
section
variable {S : Type} {α β γ δ ρ : Type} {Z Z0 Z1 Z2 Z3 Z4 Z' Zn Zh : bc S} {c c' : DE} {t u : DT} {E : Ex S ρ} {P : Type}
end
section
variable {S : Type} {α β γ δ ρ : Type} {Z Z0 Z1 Z2 Z3 Z4 Z' Zn Zh : bc S} {c c' : DE} {t u : DT} {E : Ex S ρ} {P : Type}
theorem oE (i : Nat) {get : S -> List α} {put : S -> List α -> S} {rl : Rl (List α)} {r q : Rl α} [l : Ls rl q] {f : S -> Option (List α × S)} (h : JE Z c f (rL r) Z1) (h0 : Z[i]? = some (some ⟨get, rl⟩)) (hi : Z1[i]? = some (some ⟨get, rL r⟩)) (hg : autoParam (∀ s v, get (put s v) = v) nZ._auto_1) (hf : autoParam (∀ v, Fr (fun s => put s v) (Z1.set i none)) nk._auto_1) :
  JE Z (ky i c) (fun s => (f s).bind fun p => if gE ((get p.2).length + p.1.length) = true then some ((), put p.2 (get p.2 ++ p.1)) else none) rN (Z1.set i (some ⟨get, rL r⟩)) := fun s σ v s' hs e => by
 obtain ⟨⟨a, s1⟩, e1, e⟩ := bd e;dsimp only at e;split at e
 ·rename_i hl
  have hl := jL hl;cases e;obtain ⟨x, σ1, hx, ⟨xs, rfl, rx⟩, k1⟩ := h s σ a s1 hs e1;obtain ⟨d0, hd0, h00⟩ := hs.get h0;obtain ⟨o0, ds0, rfl, _⟩ := l.l _ _ h00;obtain ⟨d, hd, ds, rfl, h2⟩ := k1.get hi;exact ⟨.non, _, by simp only [ky, hd0, hx, bind_some, hd, <- h2.len, <- rx.len, hl, if_true], rfl, k1.put hg hf ⟨_, rfl, h2.append rx⟩⟩
 ·cases e
class FzI (r : Rl α) : Prop where
 f : ∀ a d, r a d -> d.fz = d
instance : FzI rI := ⟨fun _ _ h => by cases h; rfl⟩
instance : FzI rS := ⟨fun _ _ h => by cases h; rfl⟩
instance {r : Rl α} {q : Rl β} [k : FzI r] [l : FzI q] : FzI (gX r q) := ⟨fun _ _ hq0 => by obtain ⟨x, y, e, h1, h2⟩ := hq0; rw [e]; simp only [D.fz, D.fzL, k.f _ _ h1, l.f _ _ h2]⟩
instance {r : Rl α} {q : Rl β} {t : Rl γ} {u : Rl δ} [k : FzI r] [l : FzI q] [m : FzI t] [n : FzI u] : FzI (xw r q t u) := ⟨fun _ _ hq0 => by obtain ⟨x, y, z, w, e, h1, h2, h3, h4⟩ := hq0; rw [e]; simp only [D.fz, D.fzL, k.f _ _ h1, l.f _ _ h2, m.f _ _ h3, n.f _ _ h4]⟩
noncomputable def B0 : PyData -> Option Int
 | .int i => some i
 | _ => none
noncomputable def BZ : PyData -> Option Str
 | .str i => some i
 | _ => none
theorem zA {i : Int} {d : D} (h : rP (.int i) d) : d = .int i := by
 obtain ⟨h, _⟩ := h;cases d <;> simp only [D.py] at h <;> first | (cases h; rfl) | (cases h) | skip
 all_goals (obtain ⟨q, _, e⟩ := mp h; cases e)
theorem zz {i : Str} {d : D} (h : rP (.str i) d) : d = .str i := by
 obtain ⟨h, _⟩ := h;cases d <;> simp only [D.py] at h <;> first | (cases h; rfl) | (cases h) | skip
 all_goals (obtain ⟨q, _, e⟩ := mp h; cases e)
theorem qO {p : DP} {f : S -> Option PyData} (h : JP Z p f rP) : JP Z p (fun s => (f s).bind B0) rI := fun s σ v hs e => by
 obtain ⟨a, e1, e⟩ := bd e;obtain ⟨x, hx, rx⟩ := h s σ a hs e1;cases a <;> simp only [B0] at e <;> cases e;exact ⟨x, hx, zA rx⟩
theorem Ay {p : DP} {f : S -> Option PyData} (h : JP Z p f rP) : JP Z p (fun s => (f s).bind BZ) rS := fun s σ v hs e => by
 obtain ⟨a, e1, e⟩ := bd e;obtain ⟨x, hx, rx⟩ := h s σ a hs e1;cases a <;> simp only [BZ] at e <;> cases e;exact ⟨x, hx, zz rx⟩
theorem uZ : ∀ {ds : List D} {ps : List PyData} {k : Nat} {p : PyData}, D.pyL ds = some ps -> ps[k]? = some p -> ∃ x, ds[k]? = some x /\ x.py = some p
 | [], _, _, _, e, h => by cases e; simp at h
 | d :: ds, ps, k, p, e, h => by
  simp only [D.pyL] at e;obtain ⟨q, e1, e⟩ := bd e;obtain ⟨qs, e2, e⟩ := mp e;subst e;cases k with
  | zero => simp at h; subst h; exact ⟨d, rfl, e1⟩
  | succ k => simpa using uZ (ds := ds) (k := k) e2 (by simpa using h)
theorem sG : ∀ {ds : List D} {ps : List PyData}, D.pyL ds = some ps -> ds.length = ps.length
 | [], _, e => by cases e; rfl
 | d :: ds, ps, e => by
  simp only [D.pyL] at e;obtain ⟨q, e1, e⟩ := bd e;obtain ⟨qs, e2, e⟩ := mp e;subst e;simp [sG e2]
theorem vJ : ∀ {ds : List D} {k : Nat} {x : D}, D.fzL ds = ds -> ds[k]? = some x -> x.fz = x
 | [], _, _, _, h => by simp at h
 | d :: ds, k, x, e, h => by
  simp only [D.fzL, List.cons.injEq] at e;cases k with
  | zero => simp at h; subst h; exact e.1
  | succ k => exact vJ (ds := ds) (k := k) e.2 (by simpa using h)
noncomputable def z0 (p : PyData) (i : Int) : Option PyData := match p with
 | .tuple xs => cy xs i
 | .list xs => cy xs i
 | _ => none
theorem Az : JO ff z0 rP rI rP := fun a b c x y e h1 h2 => by
 cases h2;obtain ⟨hp, hf⟩ := h1;unfold z0 at e;have go : ∀ (ds : List D) (ps : List PyData), D.pyL ds = some ps -> D.fzL ds = ds -> cy ps b = some c -> ∃ z, cy ds b = some z /\ rP c z := fun ds ps h1 h2 h3 => by
  unfold cy at h3 ⊢;rw [<- sG h1] at h3;obtain ⟨j, e1, e2⟩ := bd h3;obtain ⟨z, g1, g2⟩ := uZ h1 e2;exact ⟨z, by rw [e1]; exact g1, g2, vJ h2 g1⟩
 cases x with
 | lst o ds =>
  simp only [D.py] at hp;obtain ⟨ps, e1, e2⟩ := mp hp;subst e2;simp only [D.fz, D.lst.injEq] at hf;obtain ⟨z, g1, g2⟩ := go ds ps e1 hf.2 e;exact ⟨z, g1, g2⟩
 | tup ds =>
  simp only [D.py] at hp;obtain ⟨ps, e1, e2⟩ := mp hp;subst e2;simp only [D.fz, D.tup.injEq] at hf;obtain ⟨z, g1, g2⟩ := go ds ps e1 hf e;exact ⟨z, g1, g2⟩
 | _ => simp only [D.py] at hp <;> cases hp <;> cases e
noncomputable def rQ : Rl PyData := fun p d => rP p d /\ ∃ xs, d = .tup xs
instance : Fz rQ rQ := ⟨fun _ _ h => by rw [h.1.2]; exact h⟩
class Tp (r : Rl α) : Prop where
 t : ∀ a d, r a d -> ∃ xs, d = .tup xs
instance {r : Rl α} {q : Rl β} : Tp (gX r q) := ⟨fun _ _ ⟨_, _, e, _⟩ => ⟨_, e⟩⟩
instance {r : Rl α} {q : Rl β} {t : Rl γ} {u : Rl δ} : Tp (xw r q t u) := ⟨fun _ _ ⟨_, _, _, _, e, _⟩ => ⟨_, e⟩⟩
theorem xG {r : Rl α} [k : Py r] [l : FzI r] [m : Tp r] {f : S -> Option (α × S)} (h : JE Z c f r Z1) : JE Z c (fun s => (f s).map fun p => (Py.pe r p.1, p.2)) rQ Z1 := fun s σ v s' hs e => by
 obtain ⟨⟨a, s1⟩, e1, e2⟩ := mp e;obtain ⟨x, σ1, hx, rx, k1⟩ := h s σ a s1 hs e1;cases e2;exact ⟨x, σ1, hx, ⟨⟨k.py _ _ rx, l.f _ _ rx⟩, m.t _ _ rx⟩, k1⟩
theorem nD : JO ff z0 rQ rI rP := fun a b c x y e h1 h2 => Az a b c x y e h1.1 h2
end
section
variable {S : Type} {α β γ δ ρ : Type} {Z Z0 Z1 Z2 Z3 Z4 Z' Zn Zh : bc S} {c c' : DE} {t u : DT} {E : Ex S ρ} {P : Type}
end
end TT
namespace TT
open PySem DD
variable {S α β γ : Type} {Z Z1 Z2 Z' : bc S}
theorem v3 {r : Rl α} {q : Rl β} [Py r] [Py q] {f : α -> β -> Bool} [k : EqR r q f] {b : β} : ∀ {as : List α}, (as.map (Py.pe r)).any (fun z => PyData.eqv z (Py.pe q b)) = as.any fun a => f a b
 | [] => rfl
 | a :: as => by rw [List.map_cons, List.any_cons, List.any_cons, v3, k.eqv]
noncomputable def nI (ok : α -> Bool) (f : α -> Bool) (xs : List α) : Option Bool := if xs.all ok = true then some (xs.any f) else none
theorem xI {rl : Rl (List α)} {r : Rl α} {q : Rl β} [l : Ls rl r] [kr : Py r] [kq : Py q] {f : α -> β -> Bool} [k : EqR r q f] {b : β} {xs : List α} {t : Bool} {x y : D} (e : nI (fun a => Py.ok r a && Py.ok q b && decide (min (Py.k r) (Py.k q) <= 50)) (fun a => f a b) xs = some t)
  (h1 : q b x) (h2 : rl xs y) : qV x y = some t := by
 unfold nI at e;split at e
 ·rename_i h
  cases e;obtain ⟨o, ds, rfl, h3⟩ := l.l xs y h2;have hp := uY h3;have hall : ((xs.map (Py.pe r)).all fun z => kf z (Py.pe q b)) = true := by
   rw [List.all_map];rw [List.all_eq_true] at h ⊢;intro z hz;exact t5 (h z hz)
  simp only [qV, D.py, hp, map_some, bind_some, kq.py _ _ h1, hall, if_true, v3]
 ·cases e
theorem uk {rl : Rl (List α)} {r : Rl α} {q : Rl β} [l : Ls rl r] [kr : Py r] [kq : Py q] {f : α -> β -> Bool} [k : EqR r q f] : JO sQ (fun (b : β) (xs : List α) => nI (fun a => Py.ok r a && Py.ok q b && decide (min (Py.k r) (Py.k q) <= 50)) (fun a => f a b) xs) q rl rB := fun a b c x y e h1 h2 =>
 ⟨_, by simp only [sQ, xI (rl := rl) (r := r) (q := q) e h1 h2, map_some], rfl⟩
theorem qP {rl : Rl (List α)} {r : Rl α} {q : Rl β} [l : Ls rl r] [kr : Py r] [kq : Py q] {f : α -> β -> Bool} [k : EqR r q f] : JO oO (fun (b : β) (xs : List α) => (nI (fun a => Py.ok r a && Py.ok q b && decide (min (Py.k r) (Py.k q) <= 50)) (fun a => f a b) xs).map not) q rl rB := fun a b c x y e h1 h2 => by
 obtain ⟨t, e1, e2⟩ := mp e;subst e2;exact ⟨_, by simp only [oO, xI (rl := rl) (r := r) (q := q) e1 h1 h2, map_some], rfl⟩
section
variable {c c' : DE} {t u : DT} {Zh : bc S} {α β : Type}
end
end TT
namespace TT
open PySem DD L2
variable {S α β γ : Type} {Z Z1 Z2 Z' : bc S} {c c' : DE} {t u : DT}
variable {S α β γ : Type} {Z Z1 : bc S} {c : DE}
theorem lj {g : D -> D -> Option D} {h : α -> β -> Option γ} {ra : Rl α} {rb : Rl β} {rc : Rl γ} {q : DP} {f1 : S -> Option (α × S)} {f2 : S -> Option β} (o : JO g h ra rb rc) (h1 : JE Z c f1 ra Z1) (h2 : JP Z1 q f2 rb) :
  JE Z (iC g c q) (fun s => (f1 s).bind fun p => (f2 p.2).bind fun y => (h p.1 y).map fun d => (d, p.2)) rc Z1 := fun s σ v s' hs e => by
 obtain ⟨⟨a, s1⟩, e1, e⟩ := bd e;obtain ⟨b, e2, e⟩ := bd e;obtain ⟨d, e3, e⟩ := mp e;cases e;obtain ⟨x, σ1, hx, rx, k1⟩ := h1 s σ a s1 hs e1;obtain ⟨y, hy, ry⟩ := h2 s1 σ1 b k1 e2;obtain ⟨z, hz, rz⟩ := o _ _ _ _ _ e3 rx ry;exact ⟨z, σ1, by simp only [iC, hx, hy, hz, bind_some, map_some], rz, k1⟩
end TT
namespace TT
open PySem L2 DD
section
variable {S : Type} {α β γ δ ρ : Type} {Z Z0 Z1 Z2 Z3 Z4 Z' Zn Zh : bc S} {c c' : DE} {t u : DT} {E : Ex S ρ} {P : Type}
noncomputable def two (j : Int) : List Int := (List.range ((j.toNat + 1) / 2)).map fun (k : Nat) => 0 + (k : Int) * 2
theorem All2.rev {r : Rl α} {as : List α} {ds : List D} (h : All2 r as ds) : All2 r as.reverse ds.reverse := by
 induction h with
 | nil => exact .nil
 | cons h1 h2 ih => rw [List.reverse_cons, List.reverse_cons]; exact ih.append (.cons h1 .nil)
end
section
variable {S : Type} {α β γ δ ρ : Type} {Z Z0 Z1 Z2 Z3 Z4 Z' Zn Zh : bc S} {c c' : DE} {t u : DT} {E : Ex S ρ} {P : Type}
end
section
variable {S : Type} {α β γ δ ρ : Type} {Z Z0 Z1 Z2 Z3 Z4 Z' Zn Zh : bc S} {c c' : DE} {t u : DT} {E : Ex S ρ} {P : Type}
end
end TT
namespace L2
open PySem PySem.Spec PyProof.Rows
section
variable {X : Cx}
end
end L2
namespace DD
open PySem PySem.Spec PyProof.Rows L2
section
variable {X : Cx} {a : Expr} {p : DP} {apos cpos : Pos}
end
end DD
namespace TT
open PySem L2 DD
section
variable {S : Type} {Z : bc S}
end
end TT
namespace DD
open PySem PySem.Spec PyProof.Rows L2
noncomputable def jI (g : D -> D -> Option D) (i : Nat) (c : DE) : DE := fun σ => (da σ i).bind fun _ => (c σ).bind fun p => (da p.2 i).bind fun x => (g x p.1).map fun d => (d, p.2)
section
variable {X : Cx} {b : Expr} {c : DE} {pos npos : Pos}
theorem vO {g : D -> D -> Option D} {i : Nat} {σ σ' : aZ} {d : D} (h : jI g i c σ = some (d, σ')) : ∃ x0 x y, da σ i = some x0 /\ c σ = some (y, σ') /\ da σ' i = some x /\ g x y = some d := by
 unfold jI at h;rcases h0 : da σ i with _ | x0
 ·rw [h0] at h; cases h
 ·rw [h0] at h; simp only [bind_some] at h
  rcases h1 : c σ with _ | ⟨y, σ1⟩
  ·rw [h1] at h; cases h
  ·rw [h1] at h; simp only [bind_some] at h
   rcases h2 : da σ1 i with _ | x
   ·rw [h2] at h; cases h
   ·rw [h2] at h; simp only [bind_some] at h
    obtain ⟨z, e, e2⟩ := cH h;cases e2;exact ⟨x0, x, y, rfl, rfl, h2, e⟩
theorem zC {f : Value -> Value -> Sem Value} {g : D -> D -> Option D} (o : dB X f g) {i : Nat} {σ : St} {H : Hp} {Q : VK} (h : rE X.K (jI g i c) σ H Q) :
  kA (fun x y H Q => ∃ F dx dy d w, Bor X.K F H dx x /\ Bor X.K F H dy y /\ g dx dy = some d /\ d.sc = some w /\ Q w H) (zp i) (rE X.K c) σ H Q := by
 obtain ⟨F, R, σD, d, σD', r, ec, k⟩ := h;obtain ⟨x0, x, y, e0, e1, e2, eg⟩ := vO ec;obtain ⟨w, hw⟩ := o.sc _ _ _ eg;obtain ⟨v0, hv0, _⟩ := r.get (cG e0);refine ⟨v0, hv0, F, R, σD, y, σD', r, e1, fun F1 H1 u x1 r1 => ?_⟩;obtain ⟨v1, hv1, b1⟩ := r1.get (cG e2);rw [hv0] at hv1; cases hv1;exact ⟨F1, x, y, d, w, b1, r1.bor (by simp), eg, hw, k F1 H1 w x1 (r1.pop.scal hw)⟩
theorem yr (i : Nat) {x : Str} {op : CmpOp} {g : D -> D -> Option D} (o : dB X (compareOp op) g) (hb : QE X b c) (hm : behindInMarks op b = false) (hN : autoParam (X.N[i]? = some x) bj._auto_1) (hv : autoParam (kH X.env.scope x) mv._auto_1) (hd : autoParam ((x == ("__debug__" : Str)) = false) cz._auto_1)
  (hcd : autoParam ((x == ("__classdict__" : Str)) = false) cz._auto_1) : QE X (.Compare (.Name x npos) [op] [b] pos) (jI g i c) :=
 bH (ot o.run (fY hN hv hd hcd) hb hm) fun _ _ _ h => zC o h
theorem sF (i : Nat) {x : Str} {op : CmpOp} {g : D -> D -> Option D} (o : dB X (compareOp op) g) (hb : QE X b c) (hm : behindInMarks op b = false) (hN : autoParam (X.N[i]? = some x) bj._auto_1) (hv : autoParam (kH X.env.scope x) mv._auto_1) (hd : autoParam ((x == ("__debug__" : Str)) = false) cz._auto_1)
  (hcd : autoParam ((x == ("__classdict__" : Str)) = false) cz._auto_1) : QT X (.Compare (.Name x npos) [op] [b] pos) (ba (jI g i c)) :=
 kc (lE o.run (fY hN hv hd hcd) hb hm) fun σ H Q hq0 => by
  obtain ⟨F, R, σD, k, σD', r, ec, kk⟩ := hq0;show kA _ _ _ σ H _;exact zC o ⟨F, R, σD, _, σD', r, gR ec, fun F' H' v x r' => ⟨k, (r'.bor (by simp)).bl, kk F' H' x r'.pop⟩⟩
end
end DD
namespace TT
open PySem DD L2
variable {S α β γ : Type} {Z Z1 : bc S} {c : DE}
theorem qQ (i : Nat) {g : D -> D -> Option D} {h : α -> β -> Option γ} {ra ra0 : Rl α} {rb : Rl β} {rc : Rl γ} {get : S -> α} {f : S -> Option (β × S)} (o : JO g h ra rb rc) (h0 : Z[i]? = some (some ⟨get, ra0⟩)) (h1 : Z1[i]? = some (some ⟨get, ra⟩)) (h2 : JE Z c f rb Z1) :
  JE Z (jI g i c) (fun s => (f s).bind fun p => (h (get p.2) p.1).map fun d => (d, p.2)) rc Z1 := by
 intro s σ v s' hs e;obtain ⟨⟨b, s1⟩, e1, e⟩ := bd e;obtain ⟨d, e3, e⟩ := mp e;cases e;obtain ⟨y, σ1, hy, ry, k1⟩ := h2 s σ b s1 hs e1;obtain ⟨x0, hx0, _⟩ := hs.get h0;obtain ⟨x, hx, rx⟩ := k1.get h1;obtain ⟨z, hz, rz⟩ := o _ _ _ _ _ e3 rx ry;exact ⟨z, σ1, by simp only [jI, hx0, hy, hx, hz, bind_some, map_some], rz, k1⟩
end TT
namespace PySem.AutoSeq1
theorem zk (l : Addr) (items : Array Value) (n : Nat) (sl1 : Array (Option Value)) (b : Addr) (items2 : Array Value) (n2 : Nat) (sl : Array (Option Value)) (hs2 : items.size + items2.size <= sizeLine) :
  Meets (Builtin.«list.__add__» ⟨[.ref l, .ref b], []⟩) (fun _ R s => s.heap.get? l = some { cls := .type "list", dict := none, data := .seq items n, slots := sl1 } /\ s.heap.get? b = some { cls := .type "list", dict := none, data := .seq items2 n2, slots := sl } /\ R (.ok (.ret (Value.ref s.heap.objs.size))) { s with heap := s.heap.push { cls := .type "list", data := .seq (items ++ items2) }, toks := s.toks }) :=
 .of_wp fun prog w A R s h => by
  obtain ⟨hp, g, d, tk, os⟩ := s; obtain ⟨hl, hb, h⟩ := h; have f1 := idx_int; have f2 := sub_tuple_tuple; have f3 := sub_list_list; have f4 := sub_tuple_list; have f5 := sub_list_tuple;have hz' : (items ++ items2).size <= sizeLine + 1 := by rw [Array.size_append]; omega
  have hlong : Builtin.List.listTooLong (items.size + items2.size) = false := L2.notLongL hs2
  wp_walk using wpAny_loadPart' hl, wpAny_loadPart' hb
  all_goals first | exact ⟨_, rfl, h⟩ | skip
end PySem.AutoSeq1
namespace L2
open PySem PySem.Spec PyProof.Rows
section
variable {X : Cx}
noncomputable def Bg (K : PySem.W.Frag) : R2 := fun x y H Q => ∃ l b xs zs, x = .ref l /\ y = .ref b /\ fg K H l xs /\ fg K H b zs /\ xs.length + zs.length <= sizeLine /\ ∀ p, H p = none -> Q (.ref p) (bq H p (.lst (xs ++ zs)))
theorem yJ : fh X (binaryOp .Add) (Bg X.K) := by
 intro ab s σ H x y v u Q I rx ry h;obtain ⟨l, b, xs, zs, rfl, rfl, hH, hB, hz, q⟩ := h;cases rx;cases ry;obtain ⟨its, r, ⟨o1, n1, e1, c1, d1, s1⟩, _⟩ := I.list hH;obtain ⟨its2, r2, ⟨o2, n2, e2, c2, d2, s2⟩, _⟩ := I.list hB;obtain ⟨oc, od, odt, osl⟩ := o1;obtain ⟨pc, pd, pdt, psl⟩ := o2;dsimp only at c1 d1 s1 c2 d2 s2;subst c1; subst d1; subst s1; subst c2; subst d2; subst s2;have hl1 := r.length;have hl2 := r2.length;have hsz : its.toArray.size + its2.toArray.size <= sizeLine := by rw [List.size_toArray, List.size_toArray]; omega
 refine wpAny_binaryOp_concat (T := "list") (id := "list.__add__") ⟨_, e1, rfl⟩ ⟨_, e2, rfl⟩ noFill_list_add (by rfl) ?_;refine call_meets F.slot_list_add ⟨_, e1, rfl⟩ F.entry_list_add (F.args_list_add_2 _ _) (PySem.AutoSeq1.zk l its.toArray n1 osl b its2.toArray n2 psl hsz) ⟨e1, e2, ?_⟩;have ea : its.toArray ++ its2.toArray = (its ++ its2).toArray := by simp
 rw [ea];exact ⟨.ref _, _, I.lnew (t' := s.toks) (r.append r2) (by rw [List.length_append]; omega), rfl, q _ I.fresh⟩
end
end L2
namespace DD
open PySem PySem.Spec PyProof.Rows L2
noncomputable def kz (c c' : DE) : DE := fun σ => (c σ).bind fun p => (c' p.2).bind fun q => match p.1, q.1 with
 | .lst _ xs, .lst _ ys => if xs.length + ys.length <= sizeLine then some (.lst true (D.fzL xs ++ D.fzL ys), q.2) else none
 | _, _ => none
section
variable {X : Cx} {a b : Expr} {c c' : DE} {pos : Pos}
theorem oq (ha : QE X a c) (hb : QE X b c') : QE X (.BinOp a .Add b pos) (kz c c') := bH (p5 yJ ha hb) fun σ H Q hq0 => by
 obtain ⟨F, R, σD, d, σD', r, ec, k⟩ := hq0;unfold kz at ec;rcases h1 : c σD with _ | ⟨x, σ1⟩
 ·rw [h1] at ec; cases ec
 ·rw [h1] at ec; simp only [bind_some] at ec
  rcases h2 : c' σ1 with _ | ⟨y, σ2⟩
  ·rw [h2] at ec; cases ec
  ·rw [h2] at ec; simp only [bind_some] at ec
   split at ec
   ·rename_i o1 xs o2 ys
    split at ec
    ·rename_i hz
     cases ec;refine ⟨F, R, σD, _, σ1, r, h1, fun F1 H1 v x1 r1 => ?_⟩;refine ⟨F1, _, σ1, _, _, r1, h2, fun F2 H2 u x2 r2 => ?_⟩;obtain ⟨F3, x3, r3, of3⟩ := r2.freeze;obtain ⟨F4, x4, r4, of4⟩ := r3.pop.freeze;have of3' := of3.mono x4 (fun a ha => by cases ha);simp only [D.fz, Ow] at of3' of4;obtain ⟨l2, ws, rfl, fl2, ol2, _⟩ := of3';obtain ⟨l1, us, rfl, fl1, ol1, _⟩ := of4;have hl1 := ol1.length;have hl2 := ol2.length;have hf1 := sR xs;have hf2 := sR ys;refine ⟨l1, l2, us, ws, rfl, rfl, fl1.sq, fl2.sq, by omega, fun p hp => ?_⟩;have oc : OwL X.K F4 H2 (D.fzL xs ++ D.fzL ys) (us ++ ws) [] := OwL.app ol1 ol2;obtain ⟨r5, x5⟩ := (Rel.pushL oc r4.pop).layL oc.length.symm hp;exact k F4 _ _ ((x1.trans x2).trans ((x3.trans x4).trans x5)) r5
    ·cases ec
   ·cases ec
end
end DD
namespace TT
open PySem L2 DD
section
variable {S : Type} {α β γ δ ρ : Type} {Z Z0 Z1 Z2 Z3 Z4 Z' Zn Zh : bc S} {c c' : DE}
theorem oG {rl rl' : Rl (List α)} {r r' r1 : Rl α} [l : Ls rl r] [k : Fz r r'] [l1 : Ls rl' r1] [k1 : Fz r1 r'] {f g : S -> Option (List α × S)} (h : JE Z c f rl Z1) (h' : JE Z1 c' g rl' Z2) :
  JE Z (kz c c') (fun s => (f s).bind fun p => (g p.2).bind fun q => if gE (p.1.length + q.1.length) = true then some (p.1 ++ q.1, q.2) else none) (rL r') Z2 := fun s σ v s' hs e => by
 obtain ⟨⟨a, s1⟩, e1, e⟩ := bd e;obtain ⟨⟨b, s2⟩, e2, e⟩ := bd e;dsimp only at e;split at e
 ·rename_i hz
  cases e;obtain ⟨d, σ1, h1, h2, h3⟩ := h s σ a s1 hs e1;obtain ⟨d', σ2, h4, h5, h6⟩ := h' s1 σ1 b _ h3 e2;obtain ⟨o, ds, rfl, ha⟩ := l.l a d h2;obtain ⟨o', ds', rfl, ha'⟩ := l1.l b d' h5;have hz' := jL hz;have q1 := ha.len;have q2 := ha'.len;refine ⟨_, σ2, ?_, ⟨_, rfl, (ha.fz k.f).append (ha'.fz k1.f)⟩, h6⟩;simp only [kz, h1, bind_some, h4];rw [if_pos oM]
 ·cases e
end
section
variable {S : Type} {α β γ δ ρ : Type} {Z Z0 Z1 Z2 Z3 Z4 Z' Zn Zh : bc S} {c c' : DE} {E : Ex S ρ}
end
section
variable {S α β ρ : Type}
theorem yQ {put : S -> α -> S} {b : S -> Option (TR S ρ)} {I : Nat -> S -> Prop} {n : Nat} : ∀ {xs : List α} {s : S}, (∀ k s x, xs[k]? = some x -> I (n + k) s -> ∃ s', b (put s x) = some (.nx s') /\ I (n + k + 1) s') -> I n s -> ∃ s', dc put b xs s = some (.nx s') /\ I (n + xs.length) s' := by
 intro xs
 induction xs generalizing n with
 | nil => intro s _ h; exact ⟨s, rfl, h⟩
 | cons x xs ih =>
  intro s hb h;obtain ⟨s1, e1, h1⟩ := hb 0 s x rfl h;obtain ⟨s2, e2, h2⟩ := ih (n := n + 1) (fun k s y hy hi => by
   obtain ⟨s', q1, q2⟩ := hb (k + 1) s y (by simpa using hy) (by rw [show n + (k + 1) = n + 1 + k by omega]; exact hi);exact ⟨s', q1, by rw [show n + 1 + k + 1 = n + (k + 1) + 1 by omega]; exact q2⟩) h1
  exact ⟨s2, by simp only [dc, e1, bind_some, e2], by rw [List.length_cons, show n + (xs.length + 1) = n + 1 + xs.length by omega]; exact h2⟩
theorem vp {ft : α -> S -> Option (Bool × S)} {fe : α -> S -> Option (β × S)} {s : S} {f : α -> β} : ∀ {xs : List α}, (∀ x ∈ xs, ft x s = some (true, s)) -> (∀ x ∈ xs, fe x s = some (f x, s)) -> tLc ft fe xs s = some (xs.map f, s) := by
 intro xs
 induction xs with
 | nil => intro _ _; rfl
 | cons x xs ih =>
  intro h k;have ih := ih (fun y hy => h y (List.mem_cons_of_mem _ hy)) (fun y hy => k y (List.mem_cons_of_mem _ hy));simp only [tLc, h x List.mem_cons_self, bind_some, if_true, k x List.mem_cons_self, ih, map_some, List.map_cons]
theorem pA {ft : α -> S -> Option (Bool × S)} {fe : α -> S -> Option (β × S)} {s : S} {f : α -> β} {p : α -> Bool} : ∀ {xs : List α}, (∀ x ∈ xs, ft x s = some (p x, s)) -> (∀ x ∈ xs, p x = true -> fe x s = some (f x, s)) -> tLc ft fe xs s = some ((xs.filter p).map f, s) := by
 intro xs
 induction xs with
 | nil => intro _ _; rfl
 | cons x xs ih =>
  intro h k;have ih := ih (fun y hy => h y (List.mem_cons_of_mem _ hy)) (fun y hy => k y (List.mem_cons_of_mem _ hy));cases hp : p x
  ·rw [List.filter_cons_of_neg (by rw [hp]; decide)]
   simp only [tLc, h x List.mem_cons_self, bind_some, hp, Bool.false_eq_true, if_false, ih]
  ·rw [List.filter_cons_of_pos hp]
   simp only [tLc, h x List.mem_cons_self, bind_some, hp, if_true, k x List.mem_cons_self hp, ih, map_some, List.map_cons]
theorem vq {ft : α -> S -> Option (Bool × S)} {fe : α -> S -> Option (β × S)} {I : S -> Prop} {Q : β -> Prop} : ∀ {xs : List α} {s : S}, (∀ s x, x ∈ xs -> I s -> ft x s = some (true, s)) -> (∀ s x, x ∈ xs -> I s -> ∃ y s', fe x s = some (y, s') /\ I s' /\ Q y) -> I s -> ∃ ys s', tLc ft fe xs s = some (ys, s') /\ I s' /\ ys.length = xs.length /\ ∀ y ∈ ys, Q y
 | [], s, _, _, h => ⟨[], s, rfl, h, rfl, fun y hy => by cases hy⟩
 | x :: xs, s, ht, he, h => by
  obtain ⟨y, s1, e1, h1, q1⟩ := he s x (by simp) h;obtain ⟨ys, s2, e2, h2, l2, q2⟩ := vq (xs := xs) (fun s y hy => ht s y (by simp [hy])) (fun s y hy => he s y (by simp [hy])) h1;refine ⟨y :: ys, s2, by simp only [tLc, ht s x (by simp) h, bind_some, if_true, e1, e2, map_some], h2, by simp [l2], fun z hz => ?_⟩;rcases List.mem_cons.mp hz with rfl | hz
  ·exact q1
  ·exact q2 z hz
theorem qE {a b : Int} : (Py.ok rI a && Py.ok rI b && decide (min (Py.k rI) (Py.k rI) <= 50)) = true := rfl
theorem okB {a b : Bool} : (Py.ok rB a && Py.ok rB b && decide (min (Py.k rB) (Py.k rB) <= 50)) = true := rfl
theorem nb {f : α -> α -> Bool} (h : ∀ a, f a a = true) : ∀ xs : List α, j6 f xs xs = true
 | [] => rfl
 | x :: xs => by simp only [j6, h, nb h xs, Bool.and_self]
theorem oR {f : α -> β -> Bool} {xs : List α} : j6 f xs [] = xs.isEmpty := by cases xs <;> rfl
theorem bn {c : Bool} {a b : α} (h : c = true) : (if c = true then a else b) = a := if_pos h
theorem CC {n : Nat} (h : n <= 1000) : n <= sizeLine := Nat.le_of_lt (L2.small1000 h)
theorem Cf {n : Nat} (h : n <= 1000) : n < sizeLine := L2.small1000 h
theorem ej {n : Nat} (h : n <= 1000) : gE n = true := decide_eq_true (CC h)
theorem jV {n : Nat} (h : n <= 1000) : xC n = true := decide_eq_true (Cf h)
theorem gU {xs : List α} {j : Nat} (h : j < xs.length) : cy xs (j : Int) = some xs[j] := L2.atI_nat (by simp [h])
theorem uO {z : Int} (h0 : -1000000 <= z) (h1 : z <= 1000000) : iy z = true := by
 simp only [iy, Nat.ble_eq];omega
theorem ld {x y : Int} (h : (-9223372036854775808 <= x /\ x <= 9223372036854775808) \/ (-9223372036854775808 <= y /\ y <= 9223372036854775808)) : hU x y = true := by
 simp only [hU, Bool.or_eq_true, Nat.ble_eq]; omega
theorem AH {x : Int} {y : Int} (h : decide (0 < y /\ y.natAbs.log2 < 9000) = true) : rf x y = true := h
theorem hV {put : S -> α -> S} {b : S -> Option (TR S ρ)} {P : S -> Prop} {xs : List α} {s : S} (I : Nat -> S -> Prop) (h0 : I 0 s) (hb : ∀ k s x, xs[k]? = some x -> I k s -> ∃ s', b (put s x) = some (.nx s') /\ I (k + 1) s') (hP : ∀ s', I xs.length s' -> P s') : ∃ s', dc put b xs s = some (.nx s') /\ P s' := by
 obtain ⟨s', e, h⟩ := yQ (n := 0) (I := I) (fun k s x hx hi => by
  rw [Nat.zero_add] at hi ⊢;exact hb k s x hx hi) h0
 rw [Nat.zero_add] at h;exact ⟨s', e, hP s' h⟩
theorem wS {g : GF} {h : List Int × Unit -> Option (Bool × List Int × Unit)} {r : Rl (List Int)} (j : JF g h (Pc (rM rI) Pn) rB (Pc r Pn)) (ht : ∀ ns : List Int, ns.length <= 63 -> ∃ q, h (ns, ()) = some (true, q)) : ∀ ns : List Int, ns.length <= 63 -> ∃ d, g [.lst false (ns.map D.int)] = some (.bl true, [d]) := fun ns hl => by
 obtain ⟨q, e⟩ := ht ns hl;obtain ⟨d, ds', h1, h2, d', ds2, h3, _, h4⟩ := j (ns, ()) [.lst false (ns.map D.int)] true q ⟨_, [], rfl, ⟨false, _, rfl, uR ns⟩, rfl⟩ e;cases h2;rw [show ds2 = [] from h4] at h3;exact ⟨d', by rw [h1, h3]⟩
end
end TT
namespace DD
open PySem PySem.Spec PyProof.Rows L2
section
variable {X : Cx} {o : Expr} {i : Nat} {js : List DP} {lo hi : Option Expr} {pl ph : Option DP} {p2 pos : Pos}
end
end DD
namespace TT
open PySem L2 DD
section
variable {S : Type} {α β γ δ ρ : Type} {Z Z0 Z1 Z2 Z3 Z4 Z' Zn Zh : bc S} {c c' : DE} {E : Ex S ρ}
end
end TT
namespace L2
open PySem PySem.Spec PyProof.Rows
section
variable {X : Cx}
end
end L2
namespace DD
open PySem PySem.Spec PyProof.Rows L2
section
variable {X : Cx}
end
end DD
namespace TT
open PySem L2 DD
end TT
namespace DD
open PySem PySem.Spec PyProof.Rows L2
section
variable {K : PySem.W.Frag} {F : Addr -> Prop} {H : Hp} {σD : aZ} {σ : St} {R : Ro}
end
section
variable {X : Cx} {e : Expr} {c : DE} {apos cpos : Pos} {i : Nat} {js : List DP}
end
theorem eA {c : Const} {k p} : lU (.Constant c k p) := by intro _ _; rfl
section
variable {X : Cx} {a b e : Expr} {es : List Expr} {ps : List DP} {c c' : DE} {pos apos cpos : Pos} {i : Nat} {js : List DP} {o : Expr}
end
end DD
namespace TT
open PySem L2 DD
section
variable {S : Type} {α β γ δ ρ : Type} {Z Z0 Z1 Z2 Z3 Z4 Z' Zn Zh : bc S} {c c' : DE} {E : Ex S ρ}
end
end TT
namespace DD
open PySem PySem.Spec PySem.Calls PyProof.Rows L2 PySem.W PySem.Builtin PySem.Builtin.Str
section
variable {prog : Program} {w : World} {A : Around} {E : Value -> Shared -> Prop} {s : Shared}
end
section
variable {X : Cx} {ab : List (Addr × Obj)} {σ : St} {H : Hp} {s : Shared} {F : Addr -> Prop}
end
end DD
namespace L2
open PySem PySem.Spec PyProof.Rows
section
variable {X : Cx}
end
end L2
namespace DD
open PySem PySem.Spec PyProof.Rows L2
section
variable {X : Cx}
end
section
variable {X : Cx} {elt : Expr} {ifs : List Expr} {t : DT} {c : DE} {pos : Pos} {scope : Scope}
end
end DD
namespace TT
open PySem L2 DD
section
variable {S : Type} {α β : Type} {Z Z1 Z2 : bc S}
end
end TT
namespace L2
open PySem PySem.Spec PyProof.Rows
section
variable {κ : Type} [DecidableEq κ]
noncomputable def iu (kvs : List (κ × V)) (k : κ) : Option V := (kvs.find? fun kv => decide (kv.1 = k)).map (·.2)
noncomputable def hG (kvs : List (κ × V)) (k : κ) (v : V) : List (κ × V) :=
 if (kvs.any fun kv => decide (kv.1 = k)) = true then kvs.map (fun kv => if kv.1 = k then (kv.1, v) else kv) else kvs ++ [(k, v)]
theorem mw {p : κ × V} {r : List (κ × V)} {k : κ} (e : p.1 = k) : iu (p :: r) k = some p.2 := by simp [iu, List.find?_cons, e]
theorem mx {p : κ × V} {r : List (κ × V)} {k : κ} (e : ¬ p.1 = k) : iu (p :: r) k = iu r k := by simp [iu, List.find?_cons, e]
theorem my (k : κ) : ∀ kvs : List (κ × V), (kvs.any fun kv => decide (kv.1 = k)) = (iu kvs k).isSome
 | [] => rfl
 | p :: r => by
  rw [List.any_cons];by_cases e : p.1 = k
  ·simp only [mw e, decide_eq_true e, Bool.true_or, Option.isSome_some]
  ·rw [mx e, decide_eq_false e, Bool.false_or]; exact my k r
theorem lZ (kvs : List (κ × V)) (k : κ) (v : V) : (hG kvs k v).length <= kvs.length + 1 := by
 unfold hG;split
 ·rw [List.length_map]; omega
 ·rw [List.length_append, List.length_cons, List.length_nil]; omega
theorem RelO.isSome_eq {o : Option V} {u : Option Value} (r : RelO o u) : o.isSome = u.isSome := by
 cases o with
 | none => cases u with
  | none => rfl
  | some _ => exact (show False from r).elim
 | some _ => cases u with
  | none => exact (show False from r).elim
  | some _ => rfl
theorem KV.val {kvs : List (κ × V)} {vs : List (κ × Value)} (r : KV kvs vs) (k : κ) : RelO (iu kvs k) (valueAt vs k) := by
 unfold KV at r
 induction r with
 | nil => exact True.intro
 | @cons p q ps qs h t ih =>
  obtain ⟨h1, h2⟩ := h;by_cases e : p.1 = k
  ·have e' : q.1 = k := h1.symm.trans e
   have b : valueAt (q :: qs) k = some q.2 := by simp [valueAt, List.find?_cons, e']
   rw [mw e, b]; exact h2
  ·have e' : ¬ q.1 = k := fun z => e (h1.trans z)
   have b : valueAt (q :: qs) k = valueAt qs k := by simp [valueAt, List.find?_cons, e']
   rw [mx e, b]; exact ih
theorem KV.any {kvs : List (κ × V)} {vs : List (κ × Value)} (r : KV kvs vs) (k : κ) : (kvs.any fun kv => decide (kv.1 = k)) = vs.any fun kv => decide (kv.1 = k) := by
 unfold KV at r
 induction r with
 | nil => rfl
 | cons h t ih => rw [List.any_cons, List.any_cons, ih, h.1]
theorem KV.repl {kvs : List (κ × V)} {vs : List (κ × Value)} (r : KV kvs vs) (k : κ) {y : V} {u : Value} (ry : RelV y u) :
  KV (kvs.map fun kv => if kv.1 = k then (kv.1, y) else kv) (vs.map fun kv => if kv.1 = k then (kv.1, u) else kv) := by
 unfold KV at r ⊢
 induction r with
 | nil => exact .nil
 | @cons p q ps qs h t ih =>
  rw [List.map_cons, List.map_cons];refine .cons ?_ ih;obtain ⟨h1, h2⟩ := h;by_cases e : p.1 = k
  ·rw [if_pos e, if_pos (h1.symm.trans e)]; exact ⟨h1, ry⟩
  ·rw [if_neg e, if_neg (fun z => e (h1.trans z))]; exact ⟨h1, h2⟩
theorem KV.put {kvs : List (κ × V)} {vs : List (κ × Value)} (r : KV kvs vs) (k : κ) {y : V} {u : Value} (ry : RelV y u) : KV (hG kvs k y) (stored vs k u) := by
 unfold hG stored;rw [r.any k];by_cases e : (vs.any fun kv => decide (kv.1 = k)) = true
 ·rw [if_pos e, if_pos e]; exact r.repl k ry
 ·rw [if_neg e, if_neg e]; exact Paired.snoc r ⟨rfl, ry⟩
theorem KV.length {kvs : List (κ × V)} {vs : List (κ × Value)} (r : KV kvs vs) : kvs.length = vs.length := Paired.length r
end
theorem p9 {P : Program} {w : World} {k : bi} {u : Value} (r : RelV (kV k) u) : (bS P w).is k u = true := by
 cases k with
 | inl i => obtain ⟨t, e⟩ := (show ∃ t, u = Value.int i t from r); subst e; exact so P w i t
 | inr x => obtain ⟨t, e⟩ := (show ∃ t, u = Value.str x t from r); subst e; exact sn P w x t
theorem pD {P : Program} {w : World} : ∀ {ks : List bi} {us : List Value}, Vals (ks.map kV) us -> ItemsAre (bS P w) ks us
 | [], _, r => by rw [List.map_nil] at r; cases r; exact .nil
 | k :: ks, _, r => by
  rw [List.map_cons] at r;cases r with
  | cons h t => exact .cons (p9 h) (pD t)
noncomputable abbrev KT (H : Hp) : List (List bi × V) -> List (List bi × Addr × Value) -> Prop := Paired fun p q => p.1 = q.1 /\ H q.2.1 = some (.tup (p.1.map kV)) /\ RelV p.2 q.2.2
theorem KT.val {H : Hp} {kvs : List (List bi × V)} {xs : List (List bi × Addr × Value)} (r : KT H kvs xs) (k : List bi) : RelO (iu kvs k) ((atKey xs k).map (·.2)) := by
 induction r with
 | nil => exact True.intro
 | @cons p q ps qs h t ih =>
  obtain ⟨h1, _, h2⟩ := h;by_cases e : p.1 = k
  ·have e' : q.1 = k := h1.symm.trans e
   have b : atKey (q :: qs) k = some q.2 := by simp [atKey, List.find?_cons, e']
   rw [mw e, b]; exact h2
  ·have e' : ¬ q.1 = k := fun z => e (h1.trans z)
   have b : atKey (q :: qs) k = atKey qs k := by simp [atKey, List.find?_cons, e']
   rw [mx e, b]; exact ih
theorem KT.repl {H : Hp} {kvs : List (List bi × V)} {xs : List (List bi × Addr × Value)} (r : KT H kvs xs) (k : List bi) {y : V} {u : Value} (ry : RelV y u) :
  KT H (kvs.map fun kv => if kv.1 = k then (kv.1, y) else kv) (xs.map (putAt k u)) := by
 induction r with
 | nil => exact .nil
 | @cons p q ps qs h t ih =>
  rw [List.map_cons, List.map_cons];refine .cons ?_ ih;obtain ⟨h1, h2, h3⟩ := h;unfold putAt;by_cases e : p.1 = k
  ·rw [if_pos e, if_pos (h1.symm.trans e)]; exact ⟨h1, h2, ry⟩
  ·rw [if_neg e, if_neg (fun z => e (h1.trans z))]; exact ⟨h1, h2, h3⟩
theorem KT.put {H : Hp} {kvs : List (List bi × V)} {xs : List (List bi × Addr × Value)} (r : KT H kvs xs) (k : List bi) {b : Addr} {y : V} {u : Value} (hb : H b = some (.tup (k.map kV))) (ry : RelV y u) :
  KT H (hG kvs k y) (storedH xs k b u) := by
 have e : (kvs.any fun kv => decide (kv.1 = k)) = (atKey xs k).isSome := by
  rw [my, (r.val k).isSome_eq, Option.isSome_map]
 unfold hG storedH;rw [e];by_cases q : (atKey xs k).isSome = true
 ·rw [if_pos q, if_pos q]; exact r.repl k ry
 ·rw [if_neg q, if_neg q]; exact Paired.snoc r ⟨rfl, hb, ry⟩
theorem KT.keeps {H H' : Hp} {kvs : List (List bi × V)} {xs : List (List bi × Addr × Value)} (r : KT H kvs xs) (ht : ∀ b ys, H b = some (.tup ys) -> H' b = some (.tup ys)) : KT H' kvs xs :=
 Paired.mapP r fun _ _ z => ⟨z.1, ht _ _ z.2.1, z.2.2⟩
section
variable {P : Program} {w : World} {H : Hp} {h : Heap} {a : Addr}
theorem xu {u : HO} (ok : HOk P w H h) (e : Rd H a u) : ObjOk P w H h a u := e.ok ok
theorem ur {kvs : List (bi × V)} (ok : HOk P w H h) (e : Rd H a (.dK kvs)) : kvs.length <= sizeLine /\ (a == sysModules) = false /\ ∃ vs, KV kvs vs /\ h.DictOf (bS P w) a vs :=
 show ObjOk P w H h a (.dK kvs) from xu ok e
theorem BK {kvs : List (bi × V)} (ok : HOk P w H h) (e : H a = some (.dK kvs)) : kvs.length <= sizeLine /\ (a == sysModules) = false /\ ∃ vs, KV kvs vs /\ h.DictOf (bS P w) a vs := ur ok (.inl e)
theorem lh {ks : List bi} (ok : HOk P w H h) (e : H a = some (.tup (ks.map kV))) : (tupleKind (bS P w)).is h ks a := by
 obtain ⟨_, its, r, o, h1, h2, n, h3⟩ := (show ObjOk P w H h a (.tup (ks.map kV)) from ok a _ e);exact ⟨o, its.toArray, n, h1, h2, h3, by simpa using pD r⟩
theorem uq {kvs : List (List bi × V)} (ok : HOk P w H h) (e : Rd H a (.dT kvs)) : kvs.length <= sizeLine /\ (a == sysModules) = false /\
  ∃ xs, KT H kvs xs /\ h.DictOfH (tupleKind (bS P w)) a xs := by
 obtain ⟨z, y, xs, r, o, es, ep, h1, h2, h3, h4, h5⟩ := (show ObjOk P w H h a (.dT kvs) from xu ok e);refine ⟨z, y, xs, r, o, es, ep, h1, h2, h3, h4, fun x hx => ?_, h5⟩;have all : ∀ {l : List (List bi × V)} {m : List (List bi × Addr × Value)}, KT H l m -> ∀ x ∈ m, (tupleKind (bS P w)).is h x.1 x.2.1 := by
  intro l m q
  induction q with
  | nil => intro x hx; exact nomatch hx
  | @cons p q ps qs hq t ih =>
   intro x hx;rcases List.mem_cons.mp hx with e | hx
   ·subst e
    exact lh ok (by rw [<- hq.1]; exact hq.2.1)
   ·exact ih x hx
 exact all r x hx
theorem xL {kvs : List (List bi × V)} (ok : HOk P w H h) (e : H a = some (.dT kvs)) : kvs.length <= sizeLine /\ (a == sysModules) = false /\
  ∃ xs, KT H kvs xs /\ h.DictOfH (tupleKind (bS P w)) a xs := uq ok (.inl e)
end
noncomputable def DGet (H : Hp) (a : Addr) (y : V) (r : Option V) : Prop :=
 (∃ kvs k, Rd H a (.dK kvs) /\ y = kV k /\ r = iu kvs k) \/ ∃ kvs k b, Rd H a (.dT kvs) /\ y = .ref b /\ H b = some (.tup (k.map kV)) /\ r = iu kvs k
noncomputable def DPut (H : Hp) (a : Addr) (y v : V) (H' : Hp) : Prop :=
 (∃ kvs k, H a = some (.dK kvs) /\ y = kV k /\ kvs.length < sizeLine /\ H' = bq H a (.dK (hG kvs k v))) \/
 ∃ kvs k b, H a = some (.dT kvs) /\ y = .ref b /\ H b = some (.tup (k.map kV)) /\ kvs.length < sizeLine /\ H' = bq H a (.dT (hG kvs k v))
theorem DGet.t {H : Hp} {a b : Addr} {kvs : List (List bi × V)} {k : List bi} (e : H a = some (.dT kvs)) (eb : H b = some (.tup (k.map kV))) : DGet H a (.ref b) (iu kvs k) := .inr ⟨kvs, k, b, .inl e, rfl, eb, rfl⟩
theorem DPut.t {H : Hp} {a b : Addr} {kvs : List (List bi × V)} {k : List bi} {v : V} (e : H a = some (.dT kvs)) (eb : H b = some (.tup (k.map kV))) (hl : kvs.length < sizeLine) :
  DPut H a (.ref b) v (bq H a (.dT (hG kvs k v))) := .inr ⟨kvs, k, b, e, rfl, eb, hl, rfl⟩
section
variable {X : Cx} {ab : List (Addr × Obj)} {σ : St} {H : Hp} {s : Shared} {a : Addr} {y v : V} {u r : Value} {o : Option V} {A : Around} {E : Value -> Shared -> Prop}
theorem Inv.big (I : Inv X ab σ H s) : sysModules < s.heap.objs.size := by
 have h : mainGlobals < s.heap.objs.size := (I.mod.glob.keeps I.bk).lt;exact Nat.lt_trans dC h
theorem Cs {Q : Value -> Shared -> Prop} (hu : A.units + 1 < cLine) (I : Inv X ab σ H s) (g : DGet H a y o) (ry : RelV y u) (h : ∀ s', Inv X ab σ H s' -> Q (.bool o.isSome) s') :
  wpAny (model X.prog X.w) A (compareOp .In u (.ref a)) Q E s := by
 rcases g with ⟨kvs, k, e, ey, l⟩ | ⟨kvs, k, b, e, ey, eb, l⟩
 ·subst ey
  obtain ⟨z, hd, vs, rel, dd⟩ := ur I.hok e;refine wpAny_in_of (p9 ry) hd dd.mapOf ?_;rw [<- (rel.val k).isSome_eq, <- l];exact h _ (I.tok _)
 ·subst ey
  cases (show u = Value.ref b from ry);obtain ⟨z, hd, xs, rel, dd⟩ := uq I.hok e;refine wpAny_in_heap (tupleKind_room_in1 hu) (lh I.hok eb) hd dd ?_;have q := (rel.val k).isSome_eq;rw [Option.isSome_map] at q;rw [<- q, <- l];exact h _ (I.tok _)
theorem zb {Q : Value -> Shared -> Prop} (hu : A.units + 1 < cLine) (I : Inv X ab σ H s) (g : DGet H a y o) (ry : RelV y u) (h : ∀ s', Inv X ab σ H s' -> Q (.bool (!o.isSome)) s') :
  wpAny (model X.prog X.w) A (compareOp .NotIn u (.ref a)) Q E s := by
 rcases g with ⟨kvs, k, e, ey, l⟩ | ⟨kvs, k, b, e, ey, eb, l⟩
 ·subst ey
  obtain ⟨z, hd, vs, rel, dd⟩ := ur I.hok e;refine wpAny_notIn_of (p9 ry) hd dd.mapOf ?_;rw [<- (rel.val k).isSome_eq, <- l];exact h _ (I.tok _)
 ·subst ey
  cases (show u = Value.ref b from ry);obtain ⟨z, hd, xs, rel, dd⟩ := uq I.hok e;refine wpAny_notIn_heap (tupleKind_room_in1 hu) (lh I.hok eb) hd dd ?_;have q := (rel.val k).isSome_eq;rw [Option.isSome_map] at q;rw [<- q, <- l];exact h _ (I.tok _)
theorem sU {h' : Heap} {t' : Nat} {ob : HO} (I : Inv X ab σ H s) (mu : v7 (H a)) (hs : Heap.SameBut a s.heap h') (he : ∃ q, h'.get? a = some q) (new : ObjOk X.prog X.w (bq H a ob) h' a ob) :
  Inv X ab σ (bq H a ob) { s with heap := h', toks := t' } :=
 I.write (x := a) (e := a) mu (.inl rfl) (fun b q hb z => (hs.2 b hb).trans z) he new
theorem AL {P : Program} {w : World} {H' : Hp} {h' : Heap} {kvs : List (bi × V)} {vs : List (bi × Value)} (z : kvs.length <= sizeLine) (hd : (a == sysModules) = false) (rel : KV kvs vs) (dd : h'.DictOf (bS P w) a vs) :
  ObjOk P w H' h' a (.dK kvs) := ⟨z, hd, vs, rel, dd⟩
theorem vM {H' : Hp} {Q : Unit -> Shared -> Prop} (hu : A.units + 1 < cLine) (I : Inv X ab σ H s) (g : DPut H a y v H') (ry : RelV y u) (rv : RelV v r) (h : ∀ s', Inv X ab σ H' s' -> Q () s') :
  wpAny (model X.prog X.w) A (setItem (.ref a) u r) Q E s := by
 rcases g with ⟨kvs, k, e, ey, l, eH⟩ | ⟨kvs, k, b, e, ey, eb, l, eH⟩
 ·subst ey eH
  obtain ⟨z, hd, vs, rel, dd⟩ := BK I.hok e;have hz : vs.length <= sizeLine := by rw [<- rel.length]; exact z
  have hl : (hG kvs k v).length <= sizeLine := by have := lZ kvs k v; omega
  refine wpAny_setItem_pairs (hsz := hz) (p9 ry) dd fun h' dd' hs => h _ ?_
  have he : ∃ q, h'.get? a = some q := let ⟨q, _, _, hq, _⟩ := dd'; ⟨q, hq⟩;exact sU I (by rw [e]; exact True.intro) hs he (AL hl hd (rel.put k rv) dd')
 ·subst ey eH
  cases (show u = Value.ref b from ry);obtain ⟨z, hd, xs, rel, dd⟩ := xL I.hok e;have hz : xs.length <= sizeLine := by rw [<- Paired.length rel]; exact z
  have hl : (hG kvs k v).length <= sizeLine := by have := lZ kvs k v; omega
  refine wpAny_setItem_heap (hsz := hz) (tupleKind_room_in1 hu) (lh I.hok eb) dd fun h' dd' hs => h _ ?_
  obtain ⟨q, es, ep, hq, h2, h3, h4, _, h5⟩ := dd';refine sU I (by rw [e]; exact True.intro) hs ⟨q, hq⟩ ⟨hl, hd, _, (rel.put k eb rv).keeps fun c ys ec => ?_, q, es, ep, hq, h2, h3, h4, h5⟩;rw [bL (By ec e (fun z => nomatch z))];exact ec
end
section
variable {X : Cx} {ab : List (Addr × Obj)} {σ : St} {H : Hp} {s : Shared} {a : Addr} {kvs : List (bi × V)} {k : bi} {u : Value} {A : Around} {E : Value -> Shared -> Prop}
end
noncomputable def Bd (td ty tv : TE) : TS := fun D σ H => tv σ H fun v H1 => td σ H1 fun x H2 => ty σ H2 fun y H3 => ∃ a H4, x = .ref a /\ DPut H3 a y v H4 /\ D.nx σ H4
section
variable {X : Cx} {o i e value : Expr} {pos pos' tpos : Pos} {td ty tv : TE}
theorem yy (hu : X.A.units + 1 < cLine) (ho : PE X o td) (hi : PE X i ty) (hv : PE X value tv) (hs : swapsWith value (some (.Subscript o i pos')) pos.line X.env = pure false) :
  PS X (.Assign [.Subscript o i pos'] value pos) (Bd td ty tv) := by
 intro ab s σ H D I h;refine wpAny_Assign_Subscript (bQ (hv ab s σ H _ I h) fun r s1 ⟨v, H1, I1, rv, q1⟩ => bQ (ho ab s1 σ H1 _ I1 q1) fun u s2 ⟨x, H2, I2, rx, q2⟩ => bQ (hi ab s2 σ H2 _ I2 q2) fun iv s3 ⟨y, H3, I3, ry, a, H4, ex, g, q3⟩ => ?_) hs;subst ex;obtain rfl : u = Value.ref a := rx;exact vM hu I3 g ry rv fun s4 I4 => ⟨σ, H4, I4, q3⟩
end
theorem wY {P : Program} {w : World} {H : Hp} (h : Heap) (hb : sysModules < h.objs.size) : ObjOk P w H (h.push { cls := .type "dict", data := .dict #[] }) h.objs.size (.dT []) :=
 ⟨Nat.zero_le _, beq_eq_false_iff_ne.mpr (Ne.symm (Nat.ne_of_lt hb)), [], .nil, _, #[], 0, Heap.get?_push_size _ rfl, ⟨rfl, rfl, rfl⟩, rfl, rfl, List.nodup_nil⟩
noncomputable def zt : TE := fun _ H Q => ∀ p, H p = none -> Q (.ref p) (bq H p (.dT []))
section
variable {X : Cx} {pos : Pos}
theorem wt : PE X (.Dict [] [] pos) zt := fun ab s σ H Q I h =>
 wpAny_Dict_empty ⟨.ref s.heap.objs.size, _, I.laid (a := s.heap.objs.size) (o := .dT []) (t' := s.toks) (fun _ _ q => Heap.get?_push_of_some _ q) (Nat.le_refl _) (wY s.heap I.big), rfl, h _ (I.hok.fresh (Nat.le_refl _))⟩
end
end L2
namespace L2
open PySem PySem.Spec PySem.Calls PyProof.Rows
theorem oC : typeLookup (.type "list") "keys" = pure none := by rw [typeLookup_type, builtinLookup_eq_fast]; kernel_rfl
section
variable {prog : Program} {w : World} {A : Around} {E : Value -> Shared -> Prop} {s : Shared}
theorem vt {a : Addr} {xs : Array Value} {k : Nat} {sl : Array (Option Value)} {Q : Option Value -> Shared -> Prop} (hx : s.heap.get? a = some { cls := .type "list", dict := none, data := .seq xs k, slots := sl }) (hA : A.handled = none)
  (h : ∀ h' tk, (∀ b o, s.heap.get? b = some o -> h'.get? b = some o) -> Q none { s with heap := h', toks := tk }) : wpAny (model prog w) A (getAttr? (.ref a) "keys") Q E s := by
 obtain ⟨hp, g, d, tk, os⟩ := s;have hT : ∀ tk', (⟨hp, g, d, tk', os⟩ : Shared).TypeIs (.ref a) "list" := fun _ => ⟨_, hx, rfl⟩
 have f1 := sub_AttributeError;have f3 := F.slot_list_getattribute.lookup;have f4 := F.slot_list_getattribute.bind (.ref a);have f5 := am_list_getattr_none;unfold getAttr? getAttrBy? getAttrBy
 repeat (any_goals (first | assumption | exact hT _ | ((with_reducible show wpAny _ _ (call (Value.builtin "list.__getattribute__") _ _) _ _ _); refine call_meets F.slot_list_getattribute (hT _) am_entry_list_getattribute (F.args_list_getattribute_2 _ _) (meets_getattribute_miss_list a xs k sl "keys" _ oC dC (by size_fits)) ⟨hx, hA, fun h' tk' e hx' => ?_⟩) | wp_step))
 obtain ⟨t', u', he⟩ := hx'.there;show wpAny _ _ (getattributeRaised _ _ _ _ _ _ _) _ _ _;unfold getattributeRaised
 repeat (any_goals (first | assumption | wp_step))
 exact h _ _ hx'.keeps
end
noncomputable def i6 (ks : List (List bi)) (k : List bi) : Bool := ks.any fun x => decide (x = k)
noncomputable def dU (ks : List (List bi)) (k : List bi) : List (List bi) := if i6 ks k = true then ks else ks ++ [k]
noncomputable def tK (ks : List (List bi)) : List (List bi × V) := ks.map fun k => (k, V.bl true)
theorem vZ (ks : List (List bi)) (k : List bi) : ((tK ks).any fun kv => decide (kv.1 = k)) = i6 ks k := by
 unfold tK i6;rw [List.any_map]; rfl
theorem u3 (ks : List (List bi)) (k : List bi) : hG (tK ks) k (.bl true) = tK (dU ks k) := by
 unfold hG dU;rw [vZ];by_cases h : i6 ks k = true
 ·rw [if_pos h, if_pos h]
  unfold tK;rw [List.map_map];apply List.map_congr_left;intro x _;simp only [Function.comp];split <;> rfl
 ·rw [if_neg h, if_neg h]
  simp [tK]
theorem uG (ks : List (List bi)) (k : List bi) : (iu (tK ks) k).isSome = i6 ks k := by rw [<- my, vZ]
theorem qN (ks : List (List bi)) (k : List bi) : (dU ks k).length <= ks.length + 1 := by
 unfold dU; split <;> simp
theorem sO {P : Program} {w : World} {h h' : Heap} {ks : List bi} {a : Addr} (x : (tupleKind (bS P w)).is h ks a) (k : ∀ b o, h.get? b = some o -> h'.get? b = some o) : (tupleKind (bS P w)).is h' ks a := by
 obtain ⟨o, its, n, h1, h2, h3, h4⟩ := x;exact ⟨o, its, n, k _ _ h1, h2, h3, h4⟩
theorem gg : entryFor table "dict.update.loop" = some Builtin.«dict.update.loop» := entryFor_of_tree (by kernel_rfl)
theorem di : plainId "dict.update.loop" = true := by decide +kernel
section
variable {prog : Program} {w : World} {A : Around} {R : Result -> Shared -> Prop} {I d : Addr} {h0 : Heap} {H : Hp} {n : Nat} {P : Nat -> Value -> Prop} {St : Nat -> Heap -> Prop} {fp : List Addr}
theorem pW {B : Around} {E : Value -> Shared -> Prop} {s : Shared} {b : Addr} {u v : Value} {Q : List Value -> Shared -> Prop} (ht : IsTup s.heap b #[u, v]) (h : Q [u, v] s) : wpAny (model prog w) B (Builtin.Dict.pairItems (.ref b)) Q E s := by
 obtain ⟨o, h1, h2, m, h3⟩ := ht;have hT : s.TypeIs (.ref b) "tuple" := ⟨o, h1, h2⟩;unfold Builtin.Dict.pairItems;refine wpAny_bind (wpAny_typeOf hT ?_);rw [if_pos dC];exact wpAny_bind (wpAny_seqItems h1 h3 (wpAny_pure h))
theorem sg {xs : List (List bi × Addr × Value)} {k : List bi} {b : Addr} {u : Value} {x : List bi × Addr × Value} (h : x ∈ storedH xs k b u) : (∃ y ∈ xs, x.1 = y.1 /\ x.2.1 = y.2.1) \/ (x.1 = k /\ x.2.1 = b) := by
 unfold storedH at h;split at h
 ·obtain ⟨y, hy, rfl⟩ := List.mem_map.mp h
  refine .inl ⟨y, hy, ?_⟩;unfold putAt;split <;> exact ⟨rfl, rfl⟩
 ·rcases List.mem_append.mp h with h | h
  ·exact .inl ⟨x, h, rfl, rfl⟩
  ·rw [List.mem_singleton.mp h]; exact .inr ⟨rfl, rfl⟩
theorem vL (W : Walks prog w A.in1 I fp [I] n P St) (hdf : d ∉ fp) (hd0 : h0.get? d = none) (hI0 : h0.get? I = none) (hu : A.units + 1 < cLine) (ks : Nat -> List bi)
  (hP : ∀ j v, j < n -> P j v -> ∃ b ka, v = .ref b /\ IsTup h0 b #[.ref ka, .bool true] /\ (tupleKind (bS prog w)).is h0 (ks j) ka /\ H ka = some (.tup ((ks j).map kV))) :
  ∀ (k i : Nat) (s : Shared) (acc : List (List bi)) (xs : List (List bi × Addr × Value)), n - i = k -> i <= n -> St i s.heap -> (∀ b o, h0.get? b = some o -> s.heap.get? b = some o) -> KT H (tK acc) xs -> (∀ x ∈ xs, (tupleKind (bS prog w)).is h0 x.1 x.2.1) -> s.heap.DictOfH (tupleKind (bS prog w)) d xs -> acc.length + k <= sizeLine ->
   (∀ h' tk xs', (∀ b o, h0.get? b = some o -> h'.get? b = some o) -> KT H (tK (((List.range' i k).map ks).foldl dU acc)) xs' -> h'.DictOfH (tupleKind (bS prog w)) d xs' -> R (.ok (.ret .none)) { s with heap := h', toks := tk }) ->
   codeAny (model prog w) A (.builtin "dict.update.loop" ⟨[.ref d, .ref I, rawInt i, .none], []⟩) R s := by
 have hdI : d ∉ [I] := fun z => hdf (W.sub _ z)
 have kp : ∀ {h1 h2 : Heap}, (∀ b o, h0.get? b = some o -> h1.get? b = some o) -> (∀ b o, b ∉ [I] -> h1.get? b = some o -> h2.get? b = some o) -> ∀ b o, h0.get? b = some o -> h2.get? b = some o := fun a c b o e => c b o (fun z => by rw [List.mem_singleton.mp z, hI0] at e; cases e) (a b o e)
 have dk : ∀ {h1 h2 : Heap} {xs : List (List bi × Addr × Value)}, h1.DictOfH (tupleKind (bS prog w)) d xs -> (∀ x ∈ xs, (tupleKind (bS prog w)).is h0 x.1 x.2.1) -> (∀ b o, h0.get? b = some o -> h2.get? b = some o) -> (∀ b o, b ∉ [I] -> h1.get? b = some o -> h2.get? b = some o) -> h2.DictOfH (tupleKind (bS prog w)) d xs := fun hdo hall k2 hm => by
  obtain ⟨o, es, ep, g1, g2, g3, g4, g5, g6⟩ := hdo;exact ⟨o, es, ep, hm _ _ hdI g1, g2, g3, g4, fun x hx => sO (hall x hx) k2, g6⟩
 intro k
 induction k with
 | zero =>
  intro i s acc xs hk hi hst hkp hkt hall hdo hsz hR;have hin : i = n := by omega
  subst hin;refine codeAny_builtin gg ?_;rw [Around.under_plainId di _];show wpAny _ A.in1 (pyNext (.ref I) >>= _) _ _ s;refine wpAny_bind (W.done s _ _ hst fun h' tk hm => ?_);show wpAny _ A.in1 (Builtin.Dict.addKeywords d [] >>= fun _ => ret Value.none) _ _ _;refine wpAny_bind (wpAny_pure (wpAny_pure ?_));exact hR h' tk xs (kp hkp hm) hkt (dk hdo hall (kp hkp hm) hm)
 | succ k ih =>
  intro i s acc xs hk hi hst hkp hkt hall hdo hsz hR;have hlt : i < n := by omega
  refine codeAny_builtin gg ?_;rw [Around.under_plainId di _];show wpAny _ A.in1 (pyNext (.ref I) >>= _) _ _ s;refine wpAny_bind (W.item i s _ _ hlt hst fun v h' tk hPv hst' hm => ?_);obtain ⟨b, ka, rfl, ht, hky, hH⟩ := hP i v hlt hPv;have hkp' := kp hkp hm;have hdo' := dk hdo hall hkp' hm;have ht' : IsTup h' b #[Value.ref ka, Value.bool true] := by
   obtain ⟨o, h1, h2, m, h3⟩ := ht;exact ⟨o, hkp' _ _ h1, h2, m, h3⟩
  have hxl : xs.length <= sizeLine := by rw [<- Paired.length hkt]; unfold tK; rw [List.length_map]; omega
  dsimp only;refine wpAny_bind (wpAny_holding (wpAny_bind (wpAny_tryCatch (pW ht' ?_))));dsimp only;refine wpAny_holding (wpAny_dictSet_heap (s := { s with heap := h', toks := tk }) (tupleKind_room_in1 hu) (sO hky hkp') hdo' (fun h2 hd2 hs2 => ?_) hxl);have hd0' : ∀ b o, h0.get? b = some o -> b ≠ d := fun b o e z => by rw [z, hd0] at e; cases e
  have hkp2 : ∀ b o, h0.get? b = some o -> h2.get? b = some o := fun b o e => by rw [hs2.2 b (hd0' b o e)]; exact hkp' b o e
  have hall2 : ∀ x ∈ storedH xs (ks i) ka (Value.bool true), (tupleKind (bS prog w)).is h0 x.1 x.2.1 := fun x hx => by
   rcases sg hx with ⟨y, hy, e1, e2⟩ | ⟨e1, e2⟩
   ·rw [e1, e2]; exact hall y hy
   ·rw [e1, e2]; exact hky
  have hkt2 : KT H (tK (dU acc (ks i))) (storedH xs (ks i) ka (Value.bool true)) := by
   have := KT.put hkt (ks i) (b := ka) (y := .bl true) (u := Value.bool true) hH rfl
   rwa [u3] at this
  have hal := qN acc (ks i);refine wpAny_pure ⟨plainId_quiet di _, ?_⟩;refine ih (i + 1) _ (dU acc (ks i)) _ oM hlt (W.frame _ _ _ hst' fun c hc o e => ?_) hkp2 hkt2 hall2 hd2 oM fun h3 tk3 xs3 k3 kt3 d3 => ?_
  ·rw [hs2.2 c (fun z => hdf (by rw [<- z]; exact hc))]; exact e
  ·refine hR h3 tk3 xs3 k3 ?_ d3
   rw [List.range'_succ, List.map_cons, List.foldl_cons];exact kt3
end
inductive PairsOk (H : Hp) : List V -> List (List bi) -> Prop
 | nil : PairsOk H [] []
 | cons {b c : Addr} {k : List bi} {vs : List V} {ks : List (List bi)} : H b = some (.tup [.ref c, .bl true]) -> H c = some (.tup (k.map kV)) -> PairsOk H vs ks -> PairsOk H (.ref b :: vs) (k :: ks)
theorem PairsOk.len {H : Hp} {vs : List V} {ks : List (List bi)} (h : PairsOk H vs ks) : vs.length = ks.length := by
 induction h with
 | nil => rfl
 | cons _ _ _ ih => simp [ih]
theorem PairsOk.at {H : Hp} {vs : List V} {ks : List (List bi)} (h : PairsOk H vs ks) : ∀ (j : Nat) (v : V), vs[j]? = some v -> ∃ b c, v = .ref b /\ H b = some (.tup [.ref c, .bl true]) /\ H c = some (.tup ((ks.getD j []).map kV)) := by
 induction h with
 | nil => intro j v e; simp at e
 | cons h1 h2 _ ih =>
  intro j v e;cases j with
  | zero => simp at e; subst e; exact ⟨_, _, rfl, h1, by simpa using h2⟩
  | succ j => simpa using ih j v (by simpa using e)
theorem sB : ∀ {xs : List V} {us : List Value}, Vals xs us -> ∀ (j : Nat) (u : Value), us[j]? = some u -> ∃ x, xs[j]? = some x /\ RelV x u
 | _, _, .nil, j, u, e => by simp at e
 | _, _, .cons r _, 0, u, e => by simp at e; subst e; exact ⟨_, rfl, r⟩
 | _, _, .cons _ rs, j + 1, u, e => by simpa using sB rs j u (by simpa using e)
theorem jY : ∀ (ks acc : List (List bi)), (ks.foldl dU acc).length <= acc.length + ks.length
 | [], acc => by simp
 | k :: ks, acc => by
  have h1 := jY ks (dU acc k);have h2 := qN acc k;simp only [List.foldl_cons, List.length_cons];omega
theorem tZ (ks : List (List bi)) : (List.range' 0 ks.length).map (fun j => ks.getD j []) = ks := by
 apply List.ext_getElem
 ·simp
 ·intro i h1 h2
  simp [List.getD, h2]
section
variable {X : Cx}
theorem ux (hc : X.calm = true) (hu : X.A.units + 64 < cLine) : CallR X (.type "dict") (fun vs H Q => ∃ a its ks, vs = [.ref a] /\ fg X.K H a its /\ PairsOk H its ks /\ ∀ p, H p = none -> Q (.ref p) (bq H p (.dT (tK (ks.foldl dU []))))) := by
 rintro ab s σ H vs us Q I rv ⟨a, its, ks, e, sq, pk, q⟩;subst e;obtain ⟨u, rfl, ru⟩ := gD rv;cases ru;obtain ⟨its', r, pl, hz⟩ := I.list sq;have hh : X.A.handled = none := I.ok.hd hc;refine callType_codes (Q₁ := fun obj s₁ => obj = .ref s.heap.objs.size /\ s₁ = { s with heap := s.heap.push { cls := .type "dict", data := .dict #[] } }) F.kt_called_dict (F.kt_typeCall_dict_1 _) F.entry_dict_init (kt_code_dict_new _ ⟨rfl, rfl⟩) ?_;rintro obj s₁ ⟨rfl, rfl⟩;have hnew : (s.heap.push { cls := .type "dict", data := .dict #[] }).DictOfH (tupleKind (bS X.prog X.w)) s.heap.objs.size [] := Heap.DictOfH.new s.heap;have I1 : Inv X ab σ H { s with heap := s.heap.push { cls := .type "dict", data := .dict #[] } } := I.kept (t' := s.toks) fun b o e => Heap.get?_push_of_some _ e
 refine ⟨hnew.typeIs, F.args_dict_init_2 _ _, ?_⟩;unfold Builtin.«dict.__init__»;refine wpAny_bind ?_;unfold Builtin.Dict.selfAndRest;refine wpAny_bind (wpAny_notOrdered_dict hnew.typeIs ?_);show wpAny _ _ (pure (s.heap.objs.size, [Value.ref a])) _ _ _;refine wpAny_pure ?_;show wpAny _ _ (Builtin.Dict.updateFrom "dict.__init__" s.heap.objs.size (.ref a) [] .none) _ _ _;unfold Builtin.Dict.updateFrom;obtain ⟨its2, r2, pl2, _⟩ := I1.list sq;obtain ⟨o, n, hg, hcl, hdc, hdt⟩ := pl2;obtain ⟨ocls, odict, odata, oslots⟩ := o;simp only at hcl hdc hdt;subst hcl hdc hdt;refine wpAny_bind (wpAny_typeOf (T := "list") ⟨_, hg, rfl⟩ ?_);rw [if_pos dC];refine wpAny_bind (vt hg (by simp [hh]) fun h2 tk2 k2 => ?_);rw [if_pos (show (none : Option Value).isNone = true from rfl)];have hl2 : h2.IsList a its2.toArray := ⟨_, k2 _ _ hg, rfl, n, rfl⟩;have hsz2 : s.heap.objs.size < h2.objs.size := Heap.lt_size (k2 _ _ (Heap.get?_push_size _ rfl));have haz : a < s.heap.objs.size := by obtain ⟨o1, _, e1, _⟩ := pl; exact Heap.lt_size e1
 refine wpAny_bind (wpAny_rule (wpAny_bind (wpAny_pyIter_list hl2 ?_)));refine wpAny_pure ⟨plainId_quiet di _, ?_⟩;have hk0 : ∀ b o, s.heap.get? b = some o -> h2.get? b = some o := fun b o e => k2 b o (Heap.get?_push_of_some _ e)
 have hlen := r2.length;have hpl := pk.len;refine vL (A := X.A.in1) (h0 := s.heap) (H := H) (n := its2.toArray.size) (W := Walks.list (A := X.A.in1.in1) (by simp [hh]) h2.objs.size a (Nat.ne_of_lt (Nat.lt_trans haz hsz2)) its2.toArray) ?_ (Heap.get?_none_of_le (Nat.le_refl _)) (Heap.get?_none_of_le (Nat.le_of_lt hsz2)) (by simp only [Around.in1_units]; omega) (fun j => ks.getD j []) ?_ its2.toArray.size 0 _ [] [] oM (Nat.zero_le _) ⟨⟨_, Heap.get?_push_size _ rfl, rfl, rfl⟩, hl2.push _⟩ (fun b o e => Heap.get?_push_of_some _ (hk0 b o e)) .nil (fun x hx => nomatch hx) ?_ ?_ ?_
 ·simp only [List.mem_cons, List.not_mem_nil, or_false, not_or]
  exact ⟨Nat.ne_of_lt hsz2, Nat.ne_of_gt haz⟩
 ·intro j v hj hv
  obtain ⟨x, hx, rx⟩ := sB r2 j v (by simpa using hv);obtain ⟨b, c, rfl, hb, hcc⟩ := pk.at j x hx;cases rx;obtain ⟨_, ts, rts, tup⟩ := (show ObjOk X.prog X.w H s.heap b (.tup [.ref c, .bl true]) from I.hok b _ hb);cases rts with
  | cons q1 q2 =>
   cases q2 with
   | cons q3 q4 =>
    cases q4; cases q1; cases q3;exact ⟨b, c, rfl, tup, lh I.hok hcc, hcc⟩
 ·obtain ⟨o, es, ep, g1, g2, g3, g4, g5, g6⟩ := hnew
  have g5' : ∀ h : Heap, ∀ x ∈ ([] : List (List bi × Addr × Value)), (tupleKind (bS X.prog X.w)).is h x.1 x.2.1 := fun h x hx => absurd hx List.not_mem_nil
  exact ⟨o, es, ep, Heap.get?_push_of_some _ (k2 _ _ g1), g2, g3, g4, g5' _, g6⟩
 ·rw [List.size_toArray]; simp only [List.length_nil]; omega
 ·intro h3 tk3 xs3 k3 kt3 d3
  refine ⟨rfl, .ref s.heap.objs.size, _, I.laid (a := s.heap.objs.size) (o := .dT (tK (ks.foldl dU []))) (t' := tk3) (h' := h3) k3 (Nat.le_refl _) ?_, rfl, q _ I.fresh⟩;have e1 : its2.toArray.size = ks.length := by rw [List.size_toArray]; omega
  rw [e1, tZ] at kt3;obtain ⟨o, es, ep, g1, g2, g3, g4, g5, g6⟩ := d3;have hb : sysModules < s.heap.objs.size := I.big;refine ⟨?_, beq_eq_false_iff_ne.mpr (Ne.symm (Nat.ne_of_lt hb)), xs3, kt3.keeps fun b ys e => ?_, o, es, ep, g1, g2, g3, g4, g6⟩
  ·have := jY ks []
   unfold tK; rw [List.length_map];simp only [List.length_nil] at this;omega
  ·rw [bL (dG e I.fresh)]; exact e
end
section
variable {prog : Program} {w : World} {A : Around} {E : Value -> Shared -> Prop} {s : Shared}
theorem uf (d : Addr) (hd : (d == sysModules) = false) :
  MeetsIn prog w (Builtin.«dict.__len__» ⟨[.ref d], []⟩) (fun _ R s => ∃ xs : List (List bi × Addr × Value), s.heap.DictOfH (tupleKind (bS prog w)) d xs /\ R (.ok (.ret (.int xs.length s.toks))) { s with toks := s.toks + 1 }) :=
 .of_wp fun A R s hq0 => by
  obtain ⟨kvs, hm, h⟩ := hq0;obtain ⟨o, es, ep, ho, hc, hdat, hk, hp, hn⟩ := hm;show wpAny _ _ (dictSize d >>= _) _ _ s;unfold dictSize;refine wpAny_bind (wpAny_bind (wpAny_dictEntries ho hdat (wpAny_pure ?_)));show wpAny _ _ (Builtin.Dict.pendingCount d >>= _) _ _ s;refine wpAny_bind (wpAny_pendingCount_other hd ?_);refine wpAny_ret_mkInt ?_;have : es.size = kvs.length := size_of_entries hk;simpa [this] using h
theorem uw {d : Addr} {xs : List (List bi × Addr × Value)} {Q : Value -> Shared -> Prop} (hd : (d == sysModules) = false) (hm : s.heap.DictOfH (tupleKind (bS prog w)) d xs) (hfit : (xs.length : Int) < 2 ^ 63)
  (h : Q (.int xs.length (s.toks + 1)) { s with toks := s.toks + 1 + 1 }) : wpAny (model prog w) A (call (.builtin "len") [.ref d]) Q E s := by
 refine Calls.call_function_entry kind_len plain_len entry_len (args_len1 _) ?_;unfold Builtin.«len»;refine wpAny_bind (m := oneArg "len" _) (wpAny_pure ?_);refine wpAny_bind (m := callSpecial? (.ref d) (Str.ofString "__len__")) (wpAny_callSpecial?_slot (name := Str.ofString "__len__") hm.typeIs PySem.F.slot_dict_len
  (call_meetsIn PySem.F.slot_dict_len hm.typeIs PySem.F.entry_dict_len (PySem.F.args_dict_len_1 _) (uf d hd) ⟨xs, hm, ?_⟩))
 show wpAny _ _ _ _ _ { s with toks := s.toks + 1 };refine wpAny_bind (wpAny_holding (wpAny_pure ?_));refine wpAny_bind (wpAny_letGo ?_);show wpAny _ _ (if ((xs.length : Nat) : Int) < 0 then _ else _) _ _ _;rw [if_neg oM];show wpAny _ _ (if ((xs.length : Nat) : Int) ≥ 2 ^ 63 then _ else _) _ _ _;rw [if_neg oM];exact wpAny_bind (wpAny_mkInt (wpAny_pure ⟨_, rfl, h⟩))
end
section
variable {X : Cx}
theorem vS : CallR X (.builtin "len") (fun xs H Q => ∃ a kvs, xs = [V.ref a] /\ H a = some (.dT kvs) /\ Q (.int kvs.length) H) := by
 intro ab s σ H xs us Q I r h;obtain ⟨a, kvs, rfl, ha, q⟩ := h;obtain ⟨u, rfl, ru⟩ := gD r;cases ru;obtain ⟨z, hd, xs, rel, dd⟩ := xL I.hok ha;have hl := Paired.length rel;refine uw hd dd (by rw [<- hl]; rw [sizeLine_eq] at z; omega) ?_;rw [<- hl];exact ⟨.int kvs.length, H, I.tok _, ⟨_, rfl⟩, q⟩
end
end L2
namespace DD
open PySem PySem.Spec PyProof.Rows L2
noncomputable def i3 : List D -> Option (List bi)
 | [] => some []
 | .int i :: ds => (i3 ds).map fun k => Sum.inl i :: k
 | _ => none
noncomputable def fP (xs : List D) : Bool := xs.all fun d => match d with | .bl true => true | _ => false
noncomputable abbrev lX (ks : List (List bi)) : List D := ks.map fun _ => D.bl true
theorem lK {K : PySem.W.Frag} {F : Addr -> Prop} {H : Hp} : ∀ {ds : List D} {k : List bi} {vs : List V} {L : List Addr}, i3 ds = some k -> OwL K F H ds vs L -> vs = k.map kV := by
 intro ds
 induction ds with
 | nil => intro k vs L e o; simp only [i3] at e; cases e; simp only [OwL] at o; exact o.1
 | cons d ds ih =>
  intro k vs L e o;cases d <;> simp only [i3] at e <;> first | cases e | skip
  rename_i i;obtain ⟨k', e1, e2⟩ := bE e;subst e2;simp only [OwL] at o;obtain ⟨v, ws, L1, L2, rfl, h1, h2, rfl⟩ := o;simp only [Ow] at h1;rw [ih e1 h2, h1.1]; rfl
theorem oY {K : PySem.W.Frag} {F : Addr -> Prop} {H : Hp} : ∀ {xs : List D} {vs : List V} {L : List Addr}, fP xs = true -> OwL K F H xs vs L -> vs = xs.map (fun _ => V.bl true) /\ L = [] := by
 intro xs
 induction xs with
 | nil => intro vs L _ o; simp only [OwL] at o; exact o
 | cons x xs ih =>
  intro vs L h o;unfold fP at h;rw [List.all_cons, Bool.and_eq_true] at h;simp only [OwL] at o;obtain ⟨v, ws, L1, L2, rfl, h1, h2, rfl⟩ := o;obtain ⟨e1, e2⟩ := ih (by unfold fP; exact h.2) h2;have h0 := h.1;split at h0
  ·simp only [Ow] at h1
   rw [e1, h1.1, h1.2, e2]; exact ⟨rfl, rfl⟩
  ·cases h0
theorem jc (ks : List (List bi)) : fP (lX ks) = true := by
 unfold fP;rw [List.all_eq_true];intro x hx;obtain ⟨_, _, rfl⟩ := List.mem_map.mp hx;rfl
theorem z5 {K : PySem.W.Frag} {F : Addr -> Prop} {H : Hp} : ∀ (ks : List (List bi)), OwL K F H (lX ks) (ks.map fun _ => V.bl true) [] := by
 intro ks
 induction ks with
 | nil => simp [OwL]
 | cons k ks ih =>
  simp only [lX, List.map_cons, OwL];exact ⟨_, _, [], [], rfl, Ow.of_sc rfl, ih, rfl⟩
theorem nn (ks : List (List bi)) {xs : List D} (h : ks.length = xs.length) : ks.zip (xs.map fun _ => V.bl true) = tK ks := by
 unfold tK
 induction ks generalizing xs with
 | nil => rfl
 | cons k ks ih =>
  cases xs with
  | nil => cases h
  | cons x xs => rw [List.map_cons, List.zip_cons_cons, List.map_cons, ih (by simpa using h)]
section
variable {K : PySem.W.Frag} {F : Addr -> Prop} {H : Hp} {R : Ro} {ks : List (List bi)} {xs : List D} {v : V} {o : Bool}
theorem Bor.tupH {ds : List D} {v : V} (b : Bor K F H (.tup ds) v) : ∃ a vs L, v = .ref a /\ H a = some (.tup vs) /\ OwL K F H ds vs L := by
 obtain ⟨L, ow⟩ := b;simp only [Ow] at ow;obtain ⟨a, vs, rfl, ft, ol⟩ := ow;rcases ft with ⟨_, e⟩ | ⟨z, _⟩
 ·exact ⟨a, vs, L, rfl, e, ol⟩
 ·exact (z H).elim
theorem Bor.dct {v : V} (b : Bor K F H (.dct o ks xs) v) (h : fP xs = true) : ∃ a, v = .ref a /\ H a = some (.dT (tK ks)) /\ ks.length = xs.length := by
 obtain ⟨L, ow⟩ := b;cases o with
 | true =>
  simp only [Ow] at ow;obtain ⟨a, vs, L', rfl, e, el, ol, rfl⟩ := ow;obtain ⟨ev, _⟩ := oY h ol;subst ev;have hl : ks.length = xs.length := by simpa using el
  exact ⟨a, rfl, by rw [e, nn ks hl], hl⟩
 | false =>
  simp only [Ow] at ow;obtain ⟨a, vs, rfl, e, f, el, ol, rfl⟩ := ow;obtain ⟨ev, _⟩ := oY h ol;subst ev;have hl : ks.length = xs.length := by simpa using el
  exact ⟨a, rfl, by rw [e, nn ks hl], hl⟩
theorem G.openD (g : G K F H ((.dct true ks xs, v) :: R)) (h : fP xs = true) : ∃ a, v = .ref a /\ H a = some (.dT (tK ks)) /\ G K F H ((.cell, .ref a) :: R) := by
 obtain ⟨L, ⟨L1, L2, h1, h2, rfl⟩, n, f⟩ := g.own;simp only [Ow] at h1;obtain ⟨a, vs, L', rfl, e, el, ol, rfl⟩ := h1;obtain ⟨ev, eL⟩ := oY h ol;subst ev eL;have hl : ks.length = xs.length := by simpa using el
 refine ⟨a, rfl, by rw [e, nn ks hl], ⟨[a] ++ L2, ⟨[a], L2, ?_, h2, rfl⟩, n, f⟩, g.dom⟩;simp only [Ow]; exact ⟨a, ⟨.dT (ks.zip (xs.map fun _ => V.bl true)), trivial⟩, rfl, e, rfl⟩
theorem G.formD {a : Addr} (g : G K F H ((.cell, .ref a) :: R)) (e : H a = some (.dT (tK ks))) : G K F H ((.dct true ks (lX ks), .ref a) :: R) := by
 obtain ⟨L, ⟨L1, L2, h1, h2, rfl⟩, n, f⟩ := g.own;simp only [Ow] at h1;obtain ⟨b, ob, e', hb, rfl⟩ := h1;cases e';refine ⟨⟨[a] ++ L2, ⟨[a], L2, ?_, h2, rfl⟩, n, f⟩, g.dom⟩;simp only [Ow];refine ⟨a, ks.map fun _ => V.bl true, [], rfl, ?_, by simp, z5 ks, rfl⟩;rw [e]
 have := nn ks (xs := lX ks) (by simp)
 rw [List.map_map] at this;rw [show ks.map (fun _ => V.bl true) = ks.map ((fun _ => V.bl true) ∘ fun _ => D.bl true) from rfl, this]
variable {σD : aZ} {σ : St}
theorem Rel.openD (r : Rel K F H σD σ ((.dct true ks xs, v) :: R)) (h : fP xs = true) : ∃ a, v = .ref a /\ H a = some (.dT (tK ks)) /\ Rel K F H σD σ ((.cell, .ref a) :: R) := by
 obtain ⟨a, e, h1, g⟩ := r.front.openD h;exact ⟨a, e, h1, Rel.of r.mt g⟩
theorem Rel.formD {a : Addr} (r : Rel K F H σD σ ((.cell, .ref a) :: R)) (e : H a = some (.dT (tK ks))) : Rel K F H σD σ ((.dct true ks (lX ks), .ref a) :: R) := Rel.of r.mt (r.front.formD e)
end
noncomputable def gQ : D -> D -> Option D
 | .tup ds, .dct _ ks xs => if fP xs = true then (i3 ds).map fun k => .bl (i6 ks k) else none
 | _, _ => none
noncomputable def gP : D -> D -> Option D
 | .tup ds, .dct _ ks xs => if fP xs = true then (i3 ds).map fun k => .bl (!i6 ks k) else none
 | _, _ => none
section
variable {X : Cx}
theorem pF {x y d : D} (h : gQ x y = some d) : ∃ ds o ks xs k, x = .tup ds /\ y = .dct o ks xs /\ fP xs = true /\ i3 ds = some k /\ d = .bl (i6 ks k) := by
 unfold gQ at h;split at h
 ·split at h
  ·rename_i ht
   obtain ⟨k, e, e2⟩ := bE h;exact ⟨_, _, _, _, k, rfl, rfl, ht, e, e2.symm⟩
  ·cases h
 ·cases h
theorem nK {x y d : D} (h : gP x y = some d) : ∃ ds o ks xs k, x = .tup ds /\ y = .dct o ks xs /\ fP xs = true /\ i3 ds = some k /\ d = .bl (!i6 ks k) := by
 unfold gP at h;split at h
 ·split at h
  ·rename_i ht
   obtain ⟨k, e, e2⟩ := bE h;exact ⟨_, _, _, _, k, rfl, rfl, ht, e, e2.symm⟩
  ·cases h
 ·cases h
theorem iH (hu : X.A.units + 64 < cLine) : dB X (compareOp .In) gQ := by
 refine ⟨fun ab s σ H x y v u Q I rx ry pz => ?_, fun x y d h => ?_⟩
 ·obtain ⟨F, dx, dy, d, w, b1, b2, eg, hw, q⟩ := pz
  obtain ⟨ds, o, ks, xs, k, rfl, rfl, ht, ek, rfl⟩ := pF eg;cases hw;obtain ⟨a, vs, L, rfl, ha, ol⟩ := b1.tupH;obtain ⟨b, rfl, hb, hl⟩ := b2.dct ht;have ev := lK ek ol;subst ev;cases ry;refine Cs oM I (DGet.t hb ha) rx fun s' I' => ?_
  rw [uG];exact ⟨.bl _, H, I', rfl, q⟩
 ·obtain ⟨_, _, _, _, _, _, _, _, _, rfl⟩ := pF h
  exact ⟨_, rfl⟩
theorem jU (hu : X.A.units + 64 < cLine) : dB X (compareOp .NotIn) gP := by
 refine ⟨fun ab s σ H x y v u Q I rx ry pz => ?_, fun x y d h => ?_⟩
 ·obtain ⟨F, dx, dy, d, w, b1, b2, eg, hw, q⟩ := pz
  obtain ⟨ds, o, ks, xs, k, rfl, rfl, ht, ek, rfl⟩ := nK eg;cases hw;obtain ⟨a, vs, L, rfl, ha, ol⟩ := b1.tupH;obtain ⟨b, rfl, hb, hl⟩ := b2.dct ht;have ev := lK ek ol;subst ev;cases ry;refine zb oM I (DGet.t hb ha) rx fun s' I' => ?_
  rw [uG];exact ⟨.bl _, H, I', rfl, q⟩
 ·obtain ⟨_, _, _, _, _, _, _, _, _, rfl⟩ := nK h
  exact ⟨_, rfl⟩
noncomputable def gq : List D -> Option D
 | [.dct _ ks xs] => if fP xs = true then some (.int ks.length) else none
 | _ => none
theorem jb : ic X (.builtin "len") gq := by
 refine ⟨gC vS fun vs H Q pz => ?_, fun ds d h => ?_⟩
 ·obtain ⟨F, ds, d, w, b, eg, hw, q⟩ := pz
  unfold gq at eg;split at eg
  ·split at eg
   ·rename_i ht
    cases eg; cases hw;obtain ⟨v, rfl, bv⟩ := b.one;obtain ⟨a, rfl, ha, hl⟩ := bv.dct ht;exact ⟨a, _, rfl, ha, by unfold tK; rw [List.length_map]; exact q⟩
   ·cases eg
  ·cases eg
 ·unfold gq at h
  split at h
  ·split at h
   ·cases h; exact ⟨_, rfl⟩
   ·cases h
  ·cases h
noncomputable def nP : DE := fun σ => some (.dct true [] [], σ)
theorem om {pos : Pos} : QE X (.Dict [] [] pos) nP := bH wt fun σ H Q hq0 => by
 obtain ⟨F, R, σD, d, σD', r, ec, k⟩ := hq0;cases ec;intro p hp;obtain ⟨r1, x1⟩ := r.alloc (o := .dT []) hp;exact k F _ _ x1 (Rel.formD (ks := []) r1 cW)
noncomputable def gp (i : Nat) (q : DP) : DS := fun σ => match da σ i, q σ with
 | some (.dct true ks xs), some (.tup ds) => if (fP xs && decide (ks.length < sizeLine)) = true then (i3 ds).map fun k => .nx (σ.set i (some (.dct true (dU ks k) (lX (dU ks k))))) else none
 | _, _ => none
theorem gA (i : Nat) {x : Str} {e : Expr} {q : DP} {npos pos' cp pos : Pos} {ck : Nat} (hu : X.A.units + 64 < cLine) (hq : QB X e q) (hN : autoParam (X.N[i]? = some x) bj._auto_1) (hv : autoParam (kH X.env.scope x) mv._auto_1) (hd : autoParam ((x == ("__debug__" : Str)) = false) cz._auto_1)
  (hcd : autoParam ((x == ("__classdict__" : Str)) = false) cz._auto_1) (hs : autoParam (swapsWith (.Constant (.bool true) ck cp) (some (.Subscript (.Name x npos) e pos')) pos.line X.env = pure false) bj._auto_1) :
  QS X (.Assign [.Subscript (.Name x npos) e pos'] (.Constant (.bool true) ck cp) pos) (gp i q) [] :=
 ir (yy oM (fY hN hv hd hcd) hq jl hs) fun En σ H hq0 => by
  obtain ⟨F, R, σD, o, r, ec, k⟩ := hq0;unfold gp at ec;split at ec
  ·rename_i ks xs ds h1 h2
   split at ec
   ·rename_i hc
    simp only [Bool.and_eq_true, decide_eq_true_eq] at hc;obtain ⟨kk, ek, e2⟩ := bE ec;subst e2;refine ⟨F, R, σD, .bl true, r, rfl, fun F1 H1 v g1 b1 => ?_⟩;have ev : v = .bl true := b1.sc rfl;subst ev;obtain ⟨v0, hv0, _⟩ := r.get (cG h1);refine ⟨v0, hv0, F1, R, σD, .tup ds, r.grow g1, h2, fun F2 H2 y g2 b2 => ?_⟩;have r2 := (r.grow g1).grow g2;obtain ⟨a, vs, L, rfl, ha, ol⟩ := b2.tupH;have evs := lK ek ol;subst evs;obtain ⟨v0', hv0', r3⟩ := r2.take (cG h1);rw [hv0] at hv0'; cases hv0';obtain ⟨b, rfl, hb, r4⟩ := r3.openD hc.1;refine ⟨b, _, rfl, DPut.t hb ha (by unfold tK; rw [List.length_map]; exact hc.2), ?_⟩;rw [u3];obtain ⟨r5, x5⟩ := r4.write (o := .dT (tK (dU ks kk)));have r6 := (r5.formD cW).put hv0;rw [List.set_set] at r6;exact k F2 _ _ ((g1.x.trans g2.x).trans x5) Kp.refl r6
   ·cases ec
  ·cases ec
noncomputable def jo : List D -> Option (List (List bi))
 | [] => some []
 | .tup [.tup ds, .bl true] :: xs => (i3 ds).bind fun k => (jo xs).map fun ks => k :: ks
 | _ => none
theorem wG {K : PySem.W.Frag} {F : Addr -> Prop} {H : Hp} : ∀ {xs : List D} {ks : List (List bi)} {vs : List V} {L : List Addr}, jo xs = some ks -> OwL K F H xs vs L -> PairsOk H vs ks := by
 intro xs
 induction xs with
 | nil => intro ks vs L e o; simp only [jo] at e; cases e; simp only [OwL] at o; rw [o.1]; exact .nil
 | cons x xs ih =>
  intro ks vs L e o;unfold jo at e;split at e
  ·rename_i hx; cases hx
  ·rename_i ds xs' hx
   cases hx;obtain ⟨k, e1, e⟩ := Option.bind_eq_some_iff.mp e;obtain ⟨ks', e2, e3⟩ := bE e;subst e3;simp only [OwL] at o;obtain ⟨v, ws, L1, L2, rfl, h1, h2, rfl⟩ := o;obtain ⟨b, us, L3, rfl, hb, ol⟩ := Bor.tupH ⟨_, h1⟩;simp only [OwL] at ol;obtain ⟨u1, us1, L4, L5, rfl, h3, ⟨u2, us2, L6, L7, rfl, h4, ⟨rfl, rfl⟩, rfl⟩, rfl⟩ := ol;obtain ⟨c, ws2, L8, rfl, hc, ol2⟩ := Bor.tupH ⟨_, h3⟩;have ev := lK e1 ol2;subst ev;simp only [Ow] at h4;rw [h4.1] at hb;exact .cons hb hc (ih e2 h2)
  ·cases e
noncomputable def i9 (c : DE) : DE := fun σ => (c σ).bind fun p => match p.1 with
 | .lst _ xs => (jo xs).map fun ks => (.dct true (ks.foldl dU []) (lX (ks.foldl dU [])), p.2)
 | _ => none
theorem sx {c : DE} {σ σ' : aZ} {d : D} (h : i9 c σ = some (d, σ')) : ∃ o xs ks, c σ = some (.lst o xs, σ') /\ jo xs = some ks /\ d = .dct true (ks.foldl dU []) (lX (ks.foldl dU [])) := by
 unfold i9 at h;rcases h1 : c σ with _ | ⟨y, σ1⟩
 ·rw [h1] at h; cases h
 ·rw [h1] at h; simp only [bind_some] at h
  cases y <;> simp only at h <;> first | cases h | skip
  obtain ⟨ks, ek, e2⟩ := bE h;cases e2;exact ⟨_, _, ks, rfl, ek, rfl⟩
theorem qr {x : Str} {e : Expr} {c : DE} {p1 pos : Pos} (hu : X.A.units + 64 < cLine) (hg : Gl X x) (hm : X.mg x = none) (hv : bootBuiltins x = some (.type "dict")) (ha : QE X e c) (hc : autoParam (X.calm = true) bj._auto_1) (hn : autoParam (x ≠ "__name__") cz._auto_1) (hdb : autoParam ((x == ("__debug__" : Str)) = false) cz._auto_1)
  (he : autoParam (starEach [e] X.env = (false, eval e X.env) :: starEach [] X.env) bj._auto_1) (hpl : autoParam ((backTo pos (starEach [] X.env)).any (·.1) = false) bj._auto_1) : QE X (.Call (.Name x p1) [e] [] pos) (i9 c) :=
 bH (jm (ux hc hu) hg hm hv (eB ha fZ he) hn hdb he hpl) fun σ H Q hq0 => by
  obtain ⟨F, R, σD, d, σD', r, ec, k⟩ := hq0;obtain ⟨o, xs, ks, h1, ek, rfl⟩ := sx ec;refine ⟨F, R, σD, _, _, r, h1, fun F1 H1 v x1 r1 => ?_⟩;obtain ⟨a, ws, rfl, sq, L, ol⟩ := (r1.bor (d := .lst o xs) (v := v) (by simp)).lst;refine ⟨a, ws, ks, rfl, sq, wG ek ol, fun p hp => ?_⟩;obtain ⟨r2, x2⟩ := r1.pop.alloc (o := .dT (tK (ks.foldl dU []))) hp;exact k F1 _ _ (x1.trans x2) (Rel.formD r2 cW)
end
end DD
namespace TT
open PySem L2 DD
noncomputable abbrev K3 := Int × Int × Int
noncomputable def k3 (p : K3) : List bi := [Sum.inl p.1, Sum.inl p.2.1, Sum.inl p.2.2]
theorem Aw {p q : K3} (h : k3 p = k3 q) : p = q := by
 obtain ⟨a, b, c⟩ := p;obtain ⟨a', b', c'⟩ := q;simp only [k3, List.cons.injEq, Sum.inl.injEq, and_true] at h;obtain ⟨rfl, rfl, rfl⟩ := h;rfl
noncomputable def ce (ks : List K3) (p : K3) : Bool := ks.any fun x => x == p
noncomputable def cX (ks : List K3) (p : K3) : List K3 := if ce ks p = true then ks else ks ++ [p]
theorem na (ks : List K3) (p : K3) : i6 (ks.map k3) (k3 p) = ce ks p := by
 unfold i6 ce;rw [List.any_map];congr 1;funext x;simp only [Function.comp];rw [Bool.eq_iff_iff, decide_eq_true_eq, beq_iff_eq];exact ⟨fun h => Aw h, fun h => by rw [h]⟩
theorem qM (ks : List K3) (p : K3) : dU (ks.map k3) (k3 p) = (cX ks p).map k3 := by
 unfold dU cX;rw [na];split
 ·rfl
 ·simp
theorem nN : ∀ (qs ks : List K3), (qs.map k3).foldl dU (ks.map k3) = (qs.foldl cX ks).map k3
 | [], ks => rfl
 | q :: qs, ks => by rw [List.map_cons, List.foldl_cons, List.foldl_cons, qM, nN qs]
noncomputable def gY : Rl (List K3) := fun ks d => d = .dct true (ks.map k3) (lX (ks.map k3))
noncomputable abbrev sD : Rl K3 := aa rI rI rI
theorem ui {p : K3} {d : D} (h : sD p d) : ∃ ds, d = .tup ds /\ i3 ds = some (k3 p) := by
 obtain ⟨x, y, z, e, h1, h2, h3⟩ := h;cases h1; cases h2; cases h3;exact ⟨_, e, rfl⟩
section
variable {S : Type} {α β ρ : Type} {Z Z1 Z2 : bc S} {E : Ex S ρ}
theorem gN : JO gQ (fun p ks => some (ce ks p)) sD gY rB := fun a b c x y e h1 h2 => by
 obtain ⟨ds, rfl, ek⟩ := ui h1;cases h2; cases e;exact ⟨_, by simp only [gQ, jc, if_true, ek, map_some, na], rfl⟩
theorem iM : JO gP (fun p ks => some (!ce ks p)) sD gY rB := fun a b c x y e h1 h2 => by
 obtain ⟨ds, rfl, ek⟩ := ui h1;cases h2; cases e;exact ⟨_, by simp only [gP, jc, if_true, ek, map_some, na], rfl⟩
theorem hX : v8 gq (fun ks => some (ks.length : Int)) gY rI := fun a c x e h => by
 cases h; cases e;exact ⟨_, by simp only [gq, jc, if_true, List.length_map], rfl⟩
theorem oF : JE Z nP (fun s => some ([], s)) gY Z := fun s σ v s' hs e => by
 cases e;exact ⟨_, σ, rfl, rfl, hs⟩
theorem uh : ∀ {as : List (K3 × Bool)} {ds : List D}, All2 (gX sD rB) as ds -> (as.all fun a => a.2) = true -> jo ds = some ((as.map (·.1)).map k3) := by
 intro as ds h
 induction h with
 | nil => intro _; rfl
 | @cons a d as ds h1 h2 ih =>
  intro hb;rw [List.all_cons, Bool.and_eq_true] at hb;obtain ⟨x, y, rfl, hx, hy⟩ := h1;obtain ⟨es, rfl, ek⟩ := ui hx;have hy' : y = .bl true := by rw [show y = .bl a.2 from hy, hb.1]
  subst hy';simp only [jo, ek, bind_some, ih hb.2, map_some, List.map_cons]
theorem qR {rl : Rl (List (K3 × Bool))} [l : Ls rl (gX sD rB)] {c : DE} {f : S -> Option (List (K3 × Bool) × S)} (h : JE Z c f rl Z1) :
  JE Z (i9 c) (fun s => (f s).bind fun p => if (p.1.all fun a => a.2) = true then some ((p.1.map (·.1)).foldl cX [], p.2) else none) gY Z1 := fun s σ v s' hs e => by
 obtain ⟨⟨a, s1⟩, e1, e⟩ := bd e;dsimp only at e;split at e
 ·rename_i hb
  cases e;obtain ⟨d, σ1, hd, rd, k1⟩ := h s σ a _ hs e1;obtain ⟨o, ds, rfl, h2⟩ := l.l _ _ rd;refine ⟨_, σ1, by simp only [i9, hd, bind_some, uh h2 hb, map_some]; rfl, ?_, k1⟩
  have := nN (a.map (·.1)) []
  rw [List.map_nil] at this;rw [this]; rfl
 ·cases e
theorem gB (i : Nat) {get : S -> List K3} {put : S -> List K3 -> S} {q : DP} {f : S -> Option K3} (h : JP Z q f sD) (hi : Z[i]? = some (some ⟨get, gY⟩)) (hg : autoParam (∀ s v, get (put s v) = v) nZ._auto_1) (hf : autoParam (∀ v, Fr (fun s => put s v) (Z.set i none)) nk._auto_1) :
  JS Z (gp i q) (fun s => (f s).bind fun k => if xC (get s).length = true then some (.nx (put s (cX (get s) k))) else none) (Z.set i (some ⟨get, gY⟩)) E := fun s σ t hs e => by
 obtain ⟨a, e1, e⟩ := bd e;split at e
 ·rename_i hl
  have hl := vm hl;cases e;obtain ⟨x, hx, rx⟩ := h s σ a hs e1;obtain ⟨d, hd, h2⟩ := hs.get hi;obtain ⟨ds, rfl, ek⟩ := ui rx;cases h2;refine ⟨_, by simp only [gp, hd, hx, jc, List.length_map, hl, decide_true, Bool.and_self, if_true, ek, map_some]; rfl, ?_⟩;exact hs.put hg hf (by rw [qM]; rfl)
 ·cases e
end
end TT
namespace DD
open PySem PySem.Spec PyProof.Rows L2
mutual
noncomputable def fA : D -> Bool
 | .non => true
 | .bl _ => true
 | .int _ => true
 | .str _ => true
 | .tup xs => dA xs
 | _ => false
noncomputable def dA : List D -> Bool
 | [] => true
 | x :: xs => fA x && dA xs
end
mutual
theorem pH {K : PySem.W.Frag} {F : Addr -> Prop} {H : Hp} : ∀ {d : D} {v : V} {L : List Addr}, fA d = true -> Ow K F H d v L -> L = []
 | .non, _, _, _, o => by simp only [Ow] at o; exact o.2
 | .bl _, _, _, _, o => by simp only [Ow] at o; exact o.2
 | .int _, _, _, _, o => by simp only [Ow] at o; exact o.2
 | .str _, _, _, _, o => by simp only [Ow] at o; exact o.2
 | .tup xs, _, _, h, o => by
  simp only [Ow] at o;obtain ⟨a, vs, rfl, _, ol⟩ := o;exact fF (by simpa only [fA] using h) ol
 | .hole, _, _, h, _ => by simp [fA] at h
 | .cell, _, _, h, _ => by simp [fA] at h
 | .node _ _, _, _, h, _ => by simp [fA] at h
 | .pin _ _, _, _, h, _ => by simp [fA] at h
 | .ty _, _, _, h, _ => by simp [fA] at h
 | .cls _, _, _, h, _ => by simp [fA] at h
 | .lst _ _, _, _, h, _ => by simp [fA] at h
 | .obj _ _ _ _, _, _, h, _ => by simp [fA] at h
 | .dct _ _ _, _, _, h, _ => by simp [fA] at h
theorem fF {K : PySem.W.Frag} {F : Addr -> Prop} {H : Hp} : ∀ {xs : List D} {vs : List V} {L : List Addr}, dA xs = true -> OwL K F H xs vs L -> L = []
 | [], _, _, _, o => by simp only [OwL] at o; exact o.2
 | x :: xs, _, _, h, o => by
  simp only [OwL] at o;obtain ⟨v, ws, L1, L2, rfl, h1, h2, rfl⟩ := o;simp only [dA, Bool.and_eq_true] at h;rw [pH h.1 h1, fF h.2 h2]; rfl
end
noncomputable def i8 (p : DP) : DE := fun σ => (p σ).bind fun d => match d with
 | .lst _ xs => if dA xs = true then some (.lst true xs, σ) else none
 | _ => none
noncomputable def fG (p : DP) (pl ph : Option DP) : DE := fun σ => (p σ).bind fun d => match d with
 | .lst _ xs => if dA xs = true then (jZ pl σ).bind fun l => (jZ ph σ).map fun h => (.lst true (fO xs l h), σ) else none
 | _ => none
noncomputable def iO (p q : DP) : DE := fun σ => (p σ).bind fun d => (q σ).bind fun k => match d, k with
 | .lst _ xs, .int i => if (dA xs && decide (i = -1)) = true then some (.lst true xs.reverse, σ) else none
 | _, _ => none
section
variable {X : Cx} {e st : Expr} {lo hi : Option Expr} {pl ph : Option DP} {p q : DP} {pos p2 : Pos}
theorem mK {x : Str} {p1 pos : Pos} (hg : Gl X x) (hm : X.mg x = none) (hv : bootBuiltins x = some (.type "list")) (ha : QB X e p) (hn : autoParam (x ≠ "__name__") cz._auto_1) (hdb : autoParam ((x == ("__debug__" : Str)) = false) cz._auto_1)
  (he : autoParam (starEach [e] X.env = (false, eval e X.env) :: starEach [] X.env) bj._auto_1) (hpl : autoParam ((backTo pos (starEach [] X.env)).any (·.1) = false) bj._auto_1) : QE X (.Call (.Name x p1) [e] [] pos) (i8 p) :=
 bH (jm uv hg hm hv (eB ha fZ he) hn hdb he hpl) fun σ H Q hq0 => by
  obtain ⟨F, R, σD, d, σD', r, ec, k⟩ := hq0;unfold i8 at ec;rcases h1 : p σD with _ | x
  ·rw [h1] at ec; cases ec
  ·rw [h1] at ec; simp only [bind_some] at ec
   split at ec
   ·rename_i o xs
    split at ec
    ·rename_i hs
     cases ec;refine ⟨F, R, σD, _, r, h1, fun F1 H1 v g1 b1 => ?_⟩;obtain ⟨a, ws, rfl, sq, L, ol⟩ := b1.lst;refine ⟨a, ws, rfl, sq, fun p hp => ?_⟩;have hL := fF hs ol;subst hL;obtain ⟨r3, x3⟩ := (Rel.pushL ol (r.grow g1)).layL ol.toP.1 hp;exact k F1 _ _ (g1.x.trans x3) r3
    ·cases ec
   ·cases ec
theorem eu (he : QB X e p) (hl : QO X lo pl) (hh : QO X hi ph) : QE X (.Subscript e (.Slice lo hi none p2) pos) (fG p pl ph) := bH (qw ye he hl hh) fun σ H Q hq0 => by
 obtain ⟨F, R, σD, d, σD', r, ec, k⟩ := hq0;unfold fG at ec;rcases h1 : p σD with _ | t
 ·rw [h1] at ec; cases ec
 ·rw [h1] at ec; simp only [bind_some] at ec
  refine ⟨F, R, σD, t, r, h1, fun F1 H1 v g1 b1 => ?_⟩;split at ec
  ·rename_i own xs
   split at ec
   ·rename_i hs
    rcases h2 : jZ pl σD with _ | l
    ·rw [h2] at ec; cases ec
    ·rw [h2] at ec; simp only [bind_some] at ec
     obtain ⟨h, h3, e3⟩ := cH ec;cases e3;refine ⟨F1, _, _, l, r.grow g1, h2, fun F2 H2 g2 => ?_⟩;refine ⟨F2, _, _, h, (r.grow g1).grow g2, h3, fun F3 H3 g3 => ?_⟩;have r3 := ((r.grow g1).grow g2).grow g3;obtain ⟨a, vs, rfl, sq, L, ol⟩ := ((b1.grow g2).grow g3).lst;refine ⟨a, vs, rfl, sq, fun pp hp => ?_⟩;have hL := fF hs ol;subst hL;have oc : OwL X.K F3 H3 (fO xs l h) (jJ vs l h) [] := by
      unfold fO jJ;rw [<- ol.length];exact (ol.drop).take
     obtain ⟨r5, x5⟩ := (Rel.pushL oc r3).layL oc.length.symm hp;exact k F3 _ _ ((g1.x.trans (g2.x.trans g3.x)).trans x5) r5
   ·cases ec
  ·cases ec
theorem pj (he : QB X e p) (hs : QB X st q) : QE X (.Subscript e (.Slice none none (some st) p2) pos) (iO p q) := bH (wr he hs) fun σ H Q hq0 => by
 obtain ⟨F, R, σD, d, σD', r, ec, k⟩ := hq0;unfold iO at ec;rcases h1 : p σD with _ | t
 ·rw [h1] at ec; cases ec
 ·rw [h1] at ec; simp only [bind_some] at ec
  rcases h2 : q σD with _ | y
  ·rw [h2] at ec; cases ec
  ·rw [h2] at ec; simp only [bind_some] at ec
   split at ec
   ·rename_i own xs i
    split at ec
    ·rename_i hz
     simp only [Bool.and_eq_true, decide_eq_true_eq] at hz;obtain ⟨hz, rfl⟩ := hz;cases ec;refine ⟨F, R, σD, _, r, h1, fun F1 H1 v g1 b1 => ?_⟩;refine ⟨F1, R, σD, _, r.grow g1, h2, fun F2 H2 u g2 b2 => ?_⟩;have r3 := (r.grow g1).grow g2;obtain ⟨a, vs, rfl, sq, L, ol⟩ := (b1.grow g2).lst;refine ⟨b2.int, a, vs, rfl, sq, fun pp hp => ?_⟩;have hL := fF hz ol;subst hL;have oc := z6 ol;obtain ⟨r5, x5⟩ := (Rel.pushL oc r3).layL oc.length.symm hp;exact k F2 _ _ ((g1.x.trans g2.x).trans x5) r5
    ·cases ec
   ·cases ec
end
end DD
namespace TT
open PySem L2 DD
class Fl {α : Type} (r : Rl α) : Prop where
 f : ∀ a d, r a d -> fA d = true
instance : Fl rI := ⟨fun _ _ h => by cases h; rfl⟩
section
variable {S : Type} {α β γ : Type} {Z : bc S}
instance {r : Rl α} {q : Rl β} {t : Rl γ} [k : Fl r] [l : Fl q] [m : Fl t] : Fl (aa r q t) := ⟨fun _ _ hq0 => by obtain ⟨x, y, z, e, h1, h2, h3⟩ := hq0; rw [e]; simp only [fA, dA, k.f _ _ h1, l.f _ _ h2, m.f _ _ h3, Bool.and_self]⟩
theorem All2.flat' {r : Rl α} [k : Fl r] : ∀ {as : List α} {ds : List D}, All2 r as ds -> dA ds = true
 | _, _, .nil => rfl
 | _, _, .cons h t => by simp only [dA, k.f _ _ h, All2.flat' t, Bool.and_self]
theorem mW {rl : Rl (List α)} {r : Rl α} [l : Ls rl r] [k : Fl r] {p : DP} {f : S -> Option (List α)} (h : JP Z p f rl) : JE Z (i8 p) (fun s => (f s).map fun xs => (xs, s)) (rL r) Z := fun s σ v s' hs e => by
 obtain ⟨a, e1, e2⟩ := mp e;cases e2;obtain ⟨d, hd, rd⟩ := h s σ v hs e1;obtain ⟨o, ds, rfl, hh⟩ := l.l v d rd;exact ⟨.lst true ds, σ, by simp only [i8, hd, bind_some, hh.flat', if_true], ⟨ds, rfl, hh⟩, hs⟩
theorem eC {rl : Rl (List α)} {r : Rl α} [l : Ls rl r] [k : Fl r] {p : DP} {f : S -> Option (List α)} {pl ph : Option DP} {gl gh : S -> Option (Option Int)} (h1 : JP Z p f rl) (h2 : xR Z pl gl) (h3 : xR Z ph gh) :
  JE Z (fG p pl ph) (fun s => (f s).bind fun xs => (gl s).bind fun lo => (gh s).map fun hi => (fO xs lo hi, s)) (rL r) Z := fun s σ v s' hs e => by
 obtain ⟨a, e1, e⟩ := bd e;obtain ⟨lo, e2, e⟩ := bd e;obtain ⟨hi, e3, e⟩ := mp e;cases e;obtain ⟨x, hx, rx⟩ := h1 s σ a hs e1;obtain ⟨o, ds, rfl, h⟩ := l.l a x rx;exact ⟨_, σ, by simp only [fG, hx, bind_some, h.flat', if_true, h2 s σ lo hs e2, h3 s σ hi hs e3, map_some], ⟨_, rfl, h.cut lo hi⟩, hs⟩
theorem pB {rl : Rl (List α)} {r : Rl α} [l : Ls rl r] [k : Fl r] {p : DP} {f : S -> Option (List α)} (h1 : JP Z p f rl) : JE Z (iO p (gx (pC (.int 1)))) (fun s => (f s).map fun xs => (xs.reverse, s)) (rL r) Z := by
 intro s σ v s' hs e;obtain ⟨a, e1, e⟩ := mp e;cases e;obtain ⟨x, hx, rx⟩ := h1 s σ a hs e1;obtain ⟨o, ds, rfl, h⟩ := l.l a x rx;refine ⟨_, σ, ?_, ⟨_, rfl, h.rev⟩, hs⟩;simp only [iO, hx, gx, pC, bind_some];show (if (dA ds && decide ((-1 : Int) = -1)) = true then some (D.lst true ds.reverse, σ) else none) = _;rw [if_pos (by rw [h.flat']; rfl)]
end
section
variable {α β γ α' β' γ' : Type}
instance {r : Rl α} {q : Rl β} {t : Rl γ} {r' : Rl α'} {q' : Rl β'} {t' : Rl γ'} [Py r] [Py q] [Py t] [Py r'] [Py q'] [Py t'] {f : α -> α' -> Bool} {g : β -> β' -> Bool} {h : γ -> γ' -> Bool} [k : EqR r r' f] [l : EqR q q' g] [m : EqR t t' h] :
  EqR (aa r q t) (aa r' q' t') (fun a b => f a.1 b.1 && (g a.2.1 b.2.1 && h a.2.2 b.2.2)) := ⟨fun a b => by
 simp only [Py.pe, PyData.eqv, PyData.eqvAll, k.eqv, l.eqv, m.eqv, Bool.and_true]⟩
end
end TT
namespace DD
open PySem PySem.Spec PyProof.Rows L2
section
variable {X : Cx} {a b c : Expr} {p q t : DP} {pos : Pos} {op op' : CmpOp} {g g' : D -> D -> Option D}
end
end DD
namespace TT
open PySem L2 DD
section
variable {S : Type} {α β γ ρ : Type} {Z Zb Zh : bc S} {E : Ex S ρ}
end
end TT
namespace DD
open PySem PySem.Spec PyProof.Rows L2
section
variable {X : Cx} {e o a b : Expr} {es : List Expr} {p q : DP} {c c' : DE} {pos apos cpos : Pos} {i : Nat} {js : List DP}
end
end DD
namespace TT
open PySem L2 DD
section
variable {S α β : Type} {Z Z1 : bc S}
end
end TT
namespace PySem.W
open PySem PySem.Calls PyProof.Rows
noncomputable def cI {α : Type} (lt : Nat -> Nat -> Option Bool) : KasT α -> Option α
 | .ret a => some a
 | .ask i j k => (lt i j).bind fun b => cI lt (k b)
theorem sL {α : Type} {lt : Nat -> Nat -> Option Bool} {cmp : Nat -> Nat -> (Bool -> Shared -> Prop) -> Shared -> Prop} {Q : α -> Shared -> Prop} {s : Shared} (hc : ∀ i j b, lt i j = some b -> ∀ C : Bool -> Shared -> Prop, C b s -> cmp i j C s) : ∀ {t : KasT α} {a : α}, cI lt t = some a -> Q a s -> t.kasWp cmp Q s
 | .ret a, b, e, q => by cases e; exact q
 | .ask i j k, b, e, q => by
  simp only [cI] at e;rcases h : lt i j with _ | c
  ·rw [h] at e; cases e
  ·rw [h] at e
   exact hc i j c h _ (sL (t := k c) hc e q)
noncomputable def Kp (h h' : Heap) : Prop := ∀ b o, h.get? b = some o -> h'.get? b = some o
theorem Kp.but {h₀ h h' : Heap} {a : Addr} (k : Kp h₀ h) (hs : Heap.SameBut a h h') (h0 : h₀.get? a = none) : Kp h₀ h' := fun b o e => (hs.2 b (fun q => by rw [q, h0] at e; cases e)).trans (k b o e)
section
variable {prog : Program} {w : World} {A : Around} {E : Value -> Shared -> Prop} {s : Shared} {h₀ : Heap} {a : Addr} {vs : List Value} {κ : SortKind} {lt : Nat -> Nat -> Option Bool} {p : Array Nat}
theorem lW {n : Nat} {P : PySem.Fin -> Shared -> Prop} (kp : Kp h₀ s.heap) (ho : s.heap.get? a = some (seqObj "list" vs.toArray n)) (ha0 : h₀.get? a = none) (h2 : 2 <= vs.length) (h64 : vs.length < 64)
  (hk : ∀ h', Kp h₀ h' -> ∀ Q : SortKind -> Shared -> Prop, Q κ { s with heap := h' } -> wpAny (model prog w) A (keyKind' vs.toArray) Q E { s with heap := h' })
  (hlt : ∀ h', Kp h₀ h' -> ∀ i j b, lt i j = some b -> ∀ C : Bool -> Shared -> Prop, C b { s with heap := h' } -> kas_ask prog w A κ vs i j C { s with heap := h' })
  (hr : cI lt (kas_sort vs.length) = some p)
  (hP : ∀ h' c, p.size = vs.length -> Kp h₀ h' -> h'.get? a = some (seqObj "list" (List.toArray (p.toList.map fun i => vs.getD i Value.none)) c) -> P (.done (.ret .none)) { s with heap := h' }) :
  wpAny (model prog w) A (Builtin.«list.sort» ⟨[.ref a], []⟩) P E s := by
 have ha : a < s.heap.objs.size := Heap.lt_size ho;have s1 := Heap.SameBut.update s.heap a (Obj.mapSeq fun _ => (#[] : Array Value));obtain ⟨e1, ho1⟩ : ∃ e1, (s.heap.update a (Obj.mapSeq fun _ => (#[] : Array Value))).get? a = some (seqObj "list" #[] e1) := ⟨_, get?_update_seq ho fun _ => #[]⟩;have k3 : Kp h₀ (((s.heap.update a (Obj.mapSeq fun _ => (#[] : Array Value))).push (seqObj "tuple" vs.toArray 0)).push (seqObj "list" #[] 0)) := fun b o e => Heap.get?_push_of_some _ (Heap.get?_push_of_some _ (kp.but s1 ha0 b o e))
 have ho3 : (((s.heap.update a (Obj.mapSeq fun _ => (#[] : Array Value))).push (seqObj "tuple" vs.toArray 0)).push (seqObj "list" #[] 0)).get? a = some (seqObj "list" #[] e1) := Heap.get?_push_of_some _ (Heap.get?_push_of_some _ ho1);generalize hh3 : ((s.heap.update a (Obj.mapSeq fun _ => (#[] : Array Value))).push (seqObj "tuple" vs.toArray 0)).push (seqObj "list" #[] 0) = h3 at k3 ho3;have ask : (kas_sort vs.length).kasWp (kas_ask prog w A κ vs) (fun q s' => q = p /\ s' = { s with heap := h3 }) { s with heap := h3 } := sL (hlt h3 k3) hr ⟨rfl, rfl⟩;rw [kas_ask_eq] at ask;rw [list_sort_plain];refine wpAny_bind (listItems_at ho rfl ?_);refine wpAny_bind (listUpdate_at ho rfl ?_ (by rw [List.size_toArray, sizeLine_eq]; omega) (Nat.zero_le _));refine wpAny_bind (seqEpoch_at ho1 rfl ?_);refine wpAny_bind (wpAny_newTuple ?_ (by show vs.length <= _; rw [sizeLine_eq]; omega));refine wpAny_bind (wpAny_newList ?_ (Nat.zero_le _));refine wpAny_holding ?_;show wpAny (model prog w) A _ P E { s with heap := ((s.heap.update a (Obj.mapSeq fun _ => (#[] : Array Value))).push (seqObj "tuple" vs.toArray 0)).push (seqObj "list" #[] 0) };rw [hh3];dsimp only;have hn2 : ¬ vs.toArray.size < 2 := by rw [List.size_toArray]; omega
 rw [if_neg hn2, if_neg hn2];refine wpAny_bind (hk h3 k3 _ ?_);have est : SortSt.mk' κ (vs.toArray.zip vs.toArray) #[] 7 none = kas_st κ (pairsOf vs) (List.toArray (List.range vs.length)) := by
  have e := kas_range (pairsOf vs);rw [pairsOf_size] at e;show SortSt.mk' κ (pairsOf vs) #[] 7 none = SortSt.mk' κ ((List.toArray (List.range vs.length)).map (kas_item (pairsOf vs))) #[] 7 none;rw [e]
 have run := kas_runs (E := E) (Q := fun _ st' s' => p.size = vs.length /\ arrOf st' = p.map (kas_item (pairsOf vs)) /\ failedOf st' = none /\ s' = { s with heap := h3 })
  h2 h64 (fun p' st' s' a1 a2 a3 a4 => by obtain ⟨rfl, rfl⟩ := a4; exact ⟨a1, a2, a3, rfl⟩) ask
 rw [<- est] at run;refine wpAny_bind (wpAny_mono run ?_ fun _ _ e => e);rintro ⟨⟨⟩, st'⟩ s' ⟨hp, har, hf, rfl⟩;dsimp only;have hout : (arrOf st').map (·.2) = List.toArray (p.toList.map fun i => vs.getD i Value.none) := by
  apply Array.toList_inj.mp;rw [har, Array.map_map, Array.toList_map];exact List.map_congr_left fun i _ => by show (kas_item (pairsOf vs) i).2 = _; rw [kas_item_eq]
 have hsz : (List.toArray (p.toList.map fun i => vs.getD i Value.none)).size = vs.length := by rw [List.size_toArray, List.length_map, Array.length_toList, hp]
 rw [hout];have s2 := Heap.SameBut.update h3 a (Obj.mapSeq fun _ => List.toArray (p.toList.map fun i => vs.getD i Value.none));obtain ⟨c2, hc2⟩ : ∃ c2, (h3.update a (Obj.mapSeq fun _ => List.toArray (p.toList.map fun i => vs.getD i Value.none))).get? a = some (seqObj "list" (List.toArray (p.toList.map fun i => vs.getD i Value.none)) c2) := ⟨_, get?_update_seq ho3 fun _ => List.toArray (p.toList.map fun i => vs.getD i Value.none)⟩;refine wpAny_bind (seqEpoch_at ho3 rfl ?_);refine wpAny_bind (listUpdate_at ho3 rfl ?_ (Nat.zero_le _) (Nat.le_trans (Nat.le_of_eq hsz) (by rw [sizeLine_eq]; omega)));rw [hf];simp only [bne_self_eq_false, Bool.false_eq_true, if_false];exact wpAny_pure (hP _ c2 hp (k3.but s2 ha0) hc2)
theorem kL {n : Nat} {P : PySem.Fin -> Shared -> Prop} (kp : Kp h₀ s.heap) (ho : s.heap.get? a = some (seqObj "list" vs.toArray n)) (ha0 : h₀.get? a = none) (h2 : vs.length < 2)
  (hP : ∀ h' c, Kp h₀ h' -> h'.get? a = some (seqObj "list" vs.toArray c) -> P (.done (.ret .none)) { s with heap := h' }) :
  wpAny (model prog w) A (Builtin.«list.sort» ⟨[.ref a], []⟩) P E s := by
 have ha : a < s.heap.objs.size := Heap.lt_size ho;have s1 := Heap.SameBut.update s.heap a (Obj.mapSeq fun _ => (#[] : Array Value));obtain ⟨e1, ho1⟩ : ∃ e1, (s.heap.update a (Obj.mapSeq fun _ => (#[] : Array Value))).get? a = some (seqObj "list" #[] e1) := ⟨_, get?_update_seq ho fun _ => #[]⟩;have k3 : Kp h₀ (((s.heap.update a (Obj.mapSeq fun _ => (#[] : Array Value))).push (seqObj "tuple" vs.toArray 0)).push (seqObj "list" #[] 0)) := fun b o e => Heap.get?_push_of_some _ (Heap.get?_push_of_some _ (kp.but s1 ha0 b o e))
 have ho3 : (((s.heap.update a (Obj.mapSeq fun _ => (#[] : Array Value))).push (seqObj "tuple" vs.toArray 0)).push (seqObj "list" #[] 0)).get? a = some (seqObj "list" #[] e1) := Heap.get?_push_of_some _ (Heap.get?_push_of_some _ ho1);generalize hh3 : ((s.heap.update a (Obj.mapSeq fun _ => (#[] : Array Value))).push (seqObj "tuple" vs.toArray 0)).push (seqObj "list" #[] 0) = h3 at k3 ho3;rw [list_sort_plain];refine wpAny_bind (listItems_at ho rfl ?_);refine wpAny_bind (listUpdate_at ho rfl ?_ (by rw [List.size_toArray, sizeLine_eq]; omega) (Nat.zero_le _));refine wpAny_bind (seqEpoch_at ho1 rfl ?_);refine wpAny_bind (wpAny_newTuple ?_ (by show vs.length <= _; rw [sizeLine_eq]; omega));refine wpAny_bind (wpAny_newList ?_ (Nat.zero_le _));refine wpAny_holding ?_;show wpAny (model prog w) A _ P E { s with heap := ((s.heap.update a (Obj.mapSeq fun _ => (#[] : Array Value))).push (seqObj "tuple" vs.toArray 0)).push (seqObj "list" #[] 0) };rw [hh3];dsimp only;have hn2 : vs.toArray.size < 2 := by rw [List.size_toArray]; omega
 rw [if_pos hn2, if_pos hn2];refine wpAny_bind (wpAny_pure ?_);rw [StateT.run_pure];refine wpAny_bind (wpAny_pure ?_);dsimp only;have hout : (arrOf (SortSt.mk' general' (vs.toArray.zip vs.toArray) #[] 7 none)).map (·.2) = vs.toArray := by
  show (pairsOf vs).map (·.2) = _;apply Array.toList_inj.mp;simp [pairsOf];exact List.map_snd_zip (Nat.le_refl _)
 rw [hout];have s2 := Heap.SameBut.update h3 a (Obj.mapSeq fun _ => vs.toArray);obtain ⟨c2, hc2⟩ : ∃ c2, (h3.update a (Obj.mapSeq fun _ => vs.toArray)).get? a = some (seqObj "list" vs.toArray c2) := ⟨_, get?_update_seq ho3 fun _ => vs.toArray⟩;refine wpAny_bind (seqEpoch_at ho3 rfl ?_);refine wpAny_bind (listUpdate_at ho3 rfl ?_ (Nat.zero_le _) (by rw [List.size_toArray, sizeLine_eq]; omega));simp only [bne_self_eq_false, Bool.false_eq_true, if_false];exact wpAny_pure (hP _ c2 (k3.but s2 ha0) hc2)
noncomputable def dr (lt : Nat -> Nat -> Option Bool) (n : Nat) : Option (List Nat) := if n < 2 then some (List.range n) else if n < 64 then (cI lt (kas_sort n)).map fun p => p.toList else none
theorem iP {l : Addr} {Q : Value -> Shared -> Prop} {q : List Nat} (hl : s.heap.IsList l vs.toArray)
  (hk : 2 <= vs.length -> ∀ h', Kp s.heap h' -> ∀ Q : SortKind -> Shared -> Prop, Q κ { s with heap := h' } -> wpAny (model prog w) A.in1.in1 (keyKind' vs.toArray) Q (fun _ _ => False) { s with heap := h' })
  (hlt : ∀ h', Kp s.heap h' -> ∀ i j b, lt i j = some b -> ∀ C : Bool -> Shared -> Prop, C b { s with heap := h' } -> kas_ask prog w A.in1.in1 κ vs i j C { s with heap := h' })
  (hr : dr lt vs.length = some q)
  (hQ : ∀ D h' c, q.length = vs.length -> s.heap.objs.size <= D -> Kp s.heap h' -> h'.get? D = some (seqObj "list" (List.toArray (q.map fun i => vs.getD i Value.none)) c) -> Q (.ref D) { s with heap := h' }) :
  wpAny (model prog w) A (call (.builtin "sorted") [.ref l]) Q E s := by
 have h64 : vs.length < 64 := by
  unfold dr at hr;split at hr
  ·omega
  ·split at hr
   ·assumption
   ·cases hr
 refine Calls.call_function_entry kind_sorted plain_sorted entry_sorted (args_sorted1 _) ?_;unfold Builtin.«sorted»;refine wpAny_bind (m := checkCount "sorted" 1 1 _) (wpAny_pure ?_);refine wpAny_bind (collect_list hl ?_ (by rw [sizeLine_eq]; omega));refine wpAny_bind (wpAny_newList ?_ (by rw [sizeLine_eq]; omega));have hsz : ((s.heap.push (seqObj "list" #[] 0)).update s.heap.objs.size (Obj.mapSeq (· ++ vs.toArray))).objs.size = s.heap.objs.size + 1 := by
  rw [Heap.size_update, size_push']
 have hoL : (((s.heap.push (seqObj "list" #[] 0)).update s.heap.objs.size (Obj.mapSeq (· ++ vs.toArray))).push (seqObj "list" vs.toArray 0)).get? (s.heap.objs.size + 1) = some (seqObj "list" vs.toArray 0) := by
  rw [<- hsz]; exact Heap.get?_push_size _ rfl
 have keep : Kp s.heap (((s.heap.push (seqObj "list" #[] 0)).update s.heap.objs.size (Obj.mapSeq (· ++ vs.toArray))).push (seqObj "list" vs.toArray 0)) := fun b o q => by
  have hlt : b < s.heap.objs.size := Heap.lt_size q;rw [Heap.get?_push_ne _ _ _ (by rw [hsz]; exact Nat.ne_of_lt (Nat.lt_succ_of_lt hlt)), Heap.get?_update_ne _ _ _ _ (Nat.ne_of_lt hlt), Heap.get?_push_ne _ _ _ (Nat.ne_of_lt hlt)];exact q
 have hD0 : s.heap.get? (s.heap.objs.size + 1) = none := Heap.get?_none_of_le (Nat.le_succ _);show wpAny _ _ _ _ _ { s with heap := ((s.heap.push (seqObj "list" #[] 0)).update s.heap.objs.size (Obj.mapSeq (· ++ vs.toArray))).push (seqObj "list" vs.toArray 0) };rw [hsz];refine wpAny_bind (wpAny_holding (wpAny_call_entry slot_list_sort ⟨_, hoL, rfl⟩ entry_list_sort ?body (args_list_sort _)))
 case body =>
  unfold dr at hr;split at hr
  ·rename_i hs
   cases hr;have e : ((List.range vs.length).map fun i => vs.getD i Value.none) = vs := by
    apply List.ext_getElem
    ·simp
    ·intro i h1 h2
     simp at h1;simp [h1]
   refine kL (h₀ := s.heap) keep hoL hD0 hs fun h' c k' g' => ⟨_, rfl, wpAny_pure ⟨_, rfl, ?_⟩⟩
   exact hQ _ h' c (by simp) (Nat.le_succ _) k' (by rw [e]; exact g')
  ·rename_i hs
   rcases hz : cI lt (kas_sort vs.length) with _ | p
   ·rw [hz] at hr; cases hr
   ·rw [hz] at hr
    cases hr;exact lW (h₀ := s.heap) keep hoL hD0 oM h64 (fun h' k' Q' hq => wpAny_mono (hk oM h' k' Q' hq) (fun _ _ z => z) fun _ _ z => z.elim) (fun h' k' i j b e C hC => hlt h' k' i j b e C hC) hz fun h' c hp k' g' => ⟨_, rfl, wpAny_pure ⟨_, rfl, hQ _ h' c (by rw [Array.length_toList]; exact hp) (Nat.le_succ _) k' g'⟩⟩
end
noncomputable def ki (fin : Bool) : List Int -> List Int -> Bool
 | x :: xs, y :: ys => if (x == y) = true then ki fin xs ys else decide (x < y)
 | _, _ => fin
section
variable {prog : Program} {w : World} {A : Around} {E : Value -> Shared -> Prop} {s : Shared} {fin : Bool} {Q : Bool -> Shared -> Prop}
theorem mR : ∀ {vs us : List Value} {xs ys : List Int} {i : Nat}, L2.Vals (xs.map .int) vs -> L2.Vals (ys.map .int) us -> Q (ki fin xs ys) s -> KatLex prog w A true fin Q (vs.zip us) i s
 | vs, us, [], ys, i, h1, h2, q => by
  cases h1;simp only [List.zip_nil_left];exact kat_nil (by cases ys <;> simpa [ki] using q)
 | vs, us, x :: xs, [], i, h1, h2, q => by
  cases h2;simp only [List.zip_nil_right];exact kat_nil (by simpa [ki] using q)
 | _, _, x :: xs, y :: ys, i, h1, h2, q => by
  cases h1 with | cons r1 h1 =>
  cases h2 with | cons r2 h2 =>
  obtain ⟨t, rfl⟩ := r1;obtain ⟨u, rfl⟩ := r2;rw [List.zip_cons_cons];refine kat_cons (wpAny_eqBool_int ?_);refine kat_go (fun e => ?_) (fun e => ?_)
  ·refine kat_yes (mR h1 h2 ?_)
   simp only [ki, e, if_true] at q;exact q
  ·refine kat_no ?_
   simp only [ki, e, Bool.false_eq_true, if_false] at q;rcases hi : (true && i == 0) with _ | _
   ·exact kat_one _ _ (lt_int q)
   ·exact oneLt_int q
end
end PySem.W
namespace L2
open PySem PySem.Spec PyProof.Rows PySem.W
noncomputable def nU (K : PySem.W.Frag) (H : Hp) (x : V) (k : List Int) : Prop := k ≠ [] /\ ∃ a, x = .ref a /\ mq K H a (k.map .int)
noncomputable def iZ (ks : List (List Int)) (i j : Nat) : Option Bool := (ks[i]?).bind fun x => (ks[j]?).map fun y => ki (decide (x.length < y.length)) x y
section
variable {X : Cx} {ab : List (Addr × Obj)} {σ : St} {H : Hp} {s : Shared} {h' : Heap}
theorem jK (I : Inv X ab σ H s) : ∀ {xs : List V} {ks : List (List Int)} {vs : List Value}, Paired (nU X.K H) xs ks -> Vals xs vs -> ∀ (i : Nat) k, ks[i]? = some k -> ∃ a o its n, vs[i]? = some (.ref a) /\ s.heap.get? a = some o /\ o.cls = .type "tuple" /\ o.data = .seq its n /\ Vals (k.map .int) its.toList
 | _, _, _, .nil, _, i, k, e => by simp at e
 | _, _, _, .cons ⟨_, a, rfl, sq⟩ h, rv, i, k, e => by
  cases rv with | cons r1 r2 =>
  cases r1;cases i with
  | zero =>
   cases e;obtain ⟨its, r, ⟨o, g, hc, n, hd⟩, _⟩ := I.tuple sq;exact ⟨a, o, its.toArray, n, rfl, g, hc, hd, by simpa using r⟩
  | succ i => exact jK I h r2 i k e
theorem jD (I : Inv X ab σ H s) (kp : Kp s.heap h') : ∀ {xs : List V} {ks : List (List Int)} {vs : List Value}, Paired (nU X.K H) xs ks -> Vals xs vs -> ∃ fs, KatTups h' vs fs /\ fs.length = vs.length /\ ∀ v ∈ fs, ∃ x t, v = Value.int x t
 | _, _, _, .nil, rv => by cases rv; exact ⟨[], KatTups.nil, rfl, fun v hv => by cases hv⟩
 | _, _, _, .cons (b := k) ⟨hk, a, rfl, sq⟩ h, rv => by
  cases rv with | cons r1 r2 =>
  cases r1;obtain ⟨fs, t, hl, hf⟩ := jD I kp h r2;obtain ⟨its, r, ⟨o, g, hc, n, hd⟩, _⟩ := I.tuple sq;obtain ⟨x, k', rfl⟩ : ∃ x k', k = x :: k' := by cases k with | nil => exact absurd rfl hk | cons x k' => exact ⟨x, k', rfl⟩
  cases r with | cons q1 q2 =>
  obtain ⟨t1, rfl⟩ := q1;exact ⟨.int x t1 :: fs, KatTups.cons (kp _ _ g) hc hd (by simp) t, by simp [hl], fun v hv => by
   rcases List.mem_cons.mp hv with rfl | hv
   ·exact ⟨_, _, rfl⟩
   ·exact hf v hv⟩
theorem pb {xs : List V} {vs : List Value} (r : Vals xs vs) (q : List Nat) : Vals (q.map fun i => xs.getD i .non) (q.map fun i => vs.getD i Value.none) := by
 induction q with
 | nil => exact .nil
 | cons i q ih =>
  refine .cons ?_ ih;by_cases h : i < xs.length
  ·obtain ⟨u, hu, ru⟩ := r.get (i := i) (x := xs[i]) (by simp [h])
   have h2 := (List.getElem?_eq_some_iff.mp hu);obtain ⟨h3, rfl⟩ := h2;simpa [List.getD, h, h3] using ru
  ·have h2 : ¬ i < vs.length := by rw [<- r.length]; exact h
   simp only [List.getD, List.getElem?_eq_none (Nat.le_of_not_lt h), List.getElem?_eq_none (Nat.le_of_not_lt h2), Option.getD_none];rfl
theorem ut : CallR X (.builtin "sorted") (fun vs H Q => ∃ a xs ks q, vs = [.ref a] /\ fg X.K H a xs /\ Paired (nU X.K H) xs ks /\ dr (iZ ks) xs.length = some q /\ ∀ p, H p = none -> Q (.ref p) (bq H p (.lst (q.map fun i => xs.getD i .non)))) := by
 rintro ab s σ H vs us Q I rv ⟨a, xs, ks, q, e, sq, hK, hq, k⟩;subst e;obtain ⟨u, rfl, ru⟩ := gD rv;cases ru;obtain ⟨its, r, ⟨o, n, hg, hc, hsl, hd⟩, hz⟩ := I.list sq;have hlen := r.length;refine iP (κ := tuples' true) (lt := iZ ks) (q := q) ⟨o, hg, hc, n, hd⟩ (fun h2 h' kp Q' hQ' => ?_) (fun h' kp i j b hb C hC => ?_) (by rw [<- hlen]; exact hq) (fun D h' c hl2 hD kp g => ?_)
 ·obtain ⟨fs, t, hl, hf⟩ := jD I kp hK r
  refine kat_kind (s := { s with heap := h' }) (T := .type "int") t oM (fun v hv => ?_) rfl hQ';obtain ⟨x, t', rfl⟩ := hf v hv;exact Looks.of_pure rfl
 ·unfold iZ at hb
  rcases hi : ks[i]? with _ | x
  ·rw [hi] at hb; cases hb
  ·rw [hi] at hb
   rcases hj : ks[j]? with _ | y
   ·rw [hj] at hb; cases hb
   ·rw [hj] at hb
    cases hb;obtain ⟨a1, o1, i1, n1, e1, g1, c1, d1, v1⟩ := jK I hK r i x hi;obtain ⟨a2, o2, i2, n2, e2, g2, c2, d2, v2⟩ := jK I hK r j y hj;unfold kas_ask;rw [show its.getD i Value.none = .ref a1 by simp [List.getD, e1], show its.getD j Value.none = .ref a2 by simp [List.getD, e2]];have l1 := v1.length;have l2 := v2.length;simp only [List.length_map, Array.length_toList] at l1 l2;refine kat_lt (s := { s with heap := h' }) (kp _ _ g1) d1 (kp _ _ g2) d2 ?_;rw [<- l1, <- l2];exact mR v1 v2 hC
 ·exact ⟨.ref D, _, I.laid (o := .lst (q.map fun i => xs.getD i .non)) kp hD ⟨by rw [List.length_map, hl2, <- hlen]; exact hz, _, c, pb r q, g⟩, rfl, k _ (I.hok.fresh hD)⟩
end
end L2
namespace DD
open PySem PySem.Spec PyProof.Rows L2 PySem.W
noncomputable def tupK : D -> Option (List Int)
 | .tup ds => (i5 ds).bind fun k => if k.isEmpty = true then none else some k
 | _ => none
noncomputable def ji : List D -> Option (List (List Int))
 | [] => some []
 | x :: xs => (tupK x).bind fun k => (ji xs).map fun ks => k :: ks
noncomputable def xt (xs : List D) : Option (List D) := (ji xs).bind fun ks => (dr (iZ ks) xs.length).map fun q => q.map fun i => xs.getD i .non
noncomputable def j8 (c : DE) : DE := fun σ => (c σ).bind fun p => match p.1 with
 | .lst _ xs => if dA xs = true then (xt xs).map fun ys => (.lst true ys, p.2) else none
 | _ => none
theorem y0 {K : PySem.W.Frag} {F : Addr -> Prop} {H : Hp} {k : List Int} : ∀ {ds : List D} {vs : List V} {L : List Addr}, i5 ds = some k -> OwL K F H ds vs L -> vs = k.map .int := by
 induction k with
 | nil =>
  intro ds vs L e o;cases ds with
  | nil => simp only [OwL] at o; rw [o.1]; rfl
  | cons d ds =>
   cases d <;> simp only [i5] at e <;> first | cases e | skip
   obtain ⟨_, _, h⟩ := bE e;cases h
 | cons i k ih =>
  intro ds vs L e o;cases ds with
  | nil => simp only [i5] at e; cases e
  | cons d ds =>
   cases d <;> simp only [i5] at e <;> first | cases e | skip
   obtain ⟨k', e1, h⟩ := bE e;cases h;simp only [OwL] at o;obtain ⟨v, ws, L1, L2, rfl, h1, h2, rfl⟩ := o;simp only [Ow] at h1;rw [ih e1 h2, h1.1]; rfl
theorem v9 {K : PySem.W.Frag} {F : Addr -> Prop} {H : Hp} : ∀ {xs : List D} {ks : List (List Int)} {vs : List V} {L : List Addr}, ji xs = some ks -> OwL K F H xs vs L -> Paired (nU K H) vs ks := by
 intro xs
 induction xs with
 | nil => intro ks vs L e o; simp only [ji] at e; cases e; simp only [OwL] at o; rw [o.1]; exact .nil
 | cons x xs ih =>
  intro ks vs L e o;simp only [ji] at e;obtain ⟨k, e1, e⟩ := Option.bind_eq_some_iff.mp e;obtain ⟨ks', e2, e3⟩ := bE e;subst e3;simp only [OwL] at o;obtain ⟨v, ws, L1, L2, rfl, h1, h2, rfl⟩ := o;cases x <;> simp only [tupK] at e1 <;> first | cases e1 | skip
  obtain ⟨k', e4, e5⟩ := Option.bind_eq_some_iff.mp e1;split at e5
  ·cases e5
  ·rename_i hk
   cases e5;obtain ⟨a, us, L3, rfl, sq, ol⟩ := Bor.tupH ⟨_, h1⟩
   have := y0 e4 ol
   subst this;exact .cons ⟨fun z => by rw [z] at hk; exact hk rfl, a, rfl, .inl (Rd.of sq)⟩ (ih e2 h2)
theorem z4 {K : PySem.W.Frag} {F : Addr -> Prop} {H : Hp} : ∀ {xs : List D} {vs : List V} {L : List Addr}, dA xs = true -> OwL K F H xs vs L -> ∀ i : Nat, Ow K F H (xs.getD i .non) (vs.getD i .non) [] := by
 intro xs
 induction xs with
 | nil => intro vs L _ o i; simp only [OwL] at o; rw [o.1]; simp [Ow]
 | cons x xs ih =>
  intro vs L h o i;simp only [OwL] at o;obtain ⟨v, ws, L1, L2, rfl, h1, h2, rfl⟩ := o;simp only [dA, Bool.and_eq_true] at h;cases i with
  | zero => have := pH h.1 h1; subst this; simpa using h1
  | succ i => simpa using ih h.2 h2 i
theorem wu {K : PySem.W.Frag} {F : Addr -> Prop} {H : Hp} {xs : List D} {vs : List V} {L : List Addr} (h : dA xs = true) (o : OwL K F H xs vs L) (q : List Nat) : OwL K F H (q.map fun i => xs.getD i .non) (q.map fun i => vs.getD i .non) [] := by
 induction q with
 | nil => simp [OwL]
 | cons i q ih =>
  simp only [List.map_cons, OwL];exact ⟨_, _, [], [], rfl, z4 h o i, ih, rfl⟩
theorem sw {c : DE} {σ σ' : aZ} {d : D} (h : j8 c σ = some (d, σ')) : ∃ o xs ks q, c σ = some (.lst o xs, σ') /\ dA xs = true /\ ji xs = some ks /\ dr (iZ ks) xs.length = some q /\ d = .lst true (q.map fun i => xs.getD i .non) := by
 unfold j8 at h;rcases h1 : c σ with _ | ⟨y, σ1⟩
 ·rw [h1] at h; cases h
 ·rw [h1] at h; simp only [bind_some] at h
  cases y <;> simp only at h <;> first | cases h | skip
  split at h
  ·rename_i hf
   obtain ⟨ys, ek, e2⟩ := bE h;cases e2;obtain ⟨ks, e3, e4⟩ := Option.bind_eq_some_iff.mp ek;obtain ⟨q, e5, e6⟩ := bE e4;exact ⟨_, _, ks, q, rfl, hf, e3, e5, by rw [e6]⟩
  ·cases h
section
variable {X : Cx} {e : Expr} {c : DE}
theorem wj {x : Str} {p1 pos : Pos} (hg : Gl X x) (hm : X.mg x = none) (hv : bootBuiltins x = some (.builtin "sorted")) (ha : QE X e c) (hn : autoParam (x ≠ "__name__") cz._auto_1) (hdb : autoParam ((x == ("__debug__" : Str)) = false) cz._auto_1)
  (he : autoParam (starEach [e] X.env = (false, eval e X.env) :: starEach [] X.env) bj._auto_1) (hpl : autoParam ((backTo pos (starEach [] X.env)).any (·.1) = false) bj._auto_1) : QE X (.Call (.Name x p1) [e] [] pos) (j8 c) :=
 bH (mM ut hg hm hv (eB ha fZ he) hn hdb he hpl) fun σ H Q hq0 => by
  obtain ⟨F, R, σD, d, σD', r, ec, k⟩ := hq0;obtain ⟨o, xs, ks, q, h1, hf, ek, eq, rfl⟩ := sw ec;refine ⟨F, R, σD, _, _, r, h1, fun F1 H1 v x1 r1 => ?_⟩;obtain ⟨a, ws, rfl, sq, L, ol⟩ := (r1.bor (d := .lst o xs) (v := v) (by simp)).lst;refine ⟨a, ws, ks, q, rfl, sq, v9 ek ol, by rw [ol.length]; exact eq, fun p hp => ?_⟩;have oc := wu hf ol q;obtain ⟨r2, x2⟩ := (Rel.pushL oc r1.pop).layL oc.length.symm hp;exact k F1 _ _ (x1.trans x2) r2
end
end DD
namespace DD
open PySem PySem.Spec PyProof.Rows L2
noncomputable def lR (c : DE) (pl ph : Option DP) : DE := fun σ => (c σ).bind fun p => match p.1 with
 | .tup xs => if dA xs = true then (jZ pl p.2).bind fun l => (jZ ph p.2).bind fun h => if HT.sIx xs.length 0 l = 0 /\ HT.sIx xs.length xs.length h = xs.length then none else some (.tup (fO xs l h), p.2) else none
 | _ => none
noncomputable def j9 (c : DE) : DE := fun σ => (c σ).bind fun p => match p.1 with
 | .tup xs => if dA xs = true then some (.lst true xs, p.2) else none
 | _ => none
section
variable {X : Cx} {e : Expr} {lo hi : Option Expr} {pl ph : Option DP} {c : DE} {pos p2 : Pos}
theorem yq (he : QE X e c) (hl : QO X lo pl) (hh : QO X hi ph) : QE X (.Subscript e (.Slice lo hi none p2) pos) (lR c pl ph) := bH (qw zv he hl hh) fun σ H Q hq0 => by
 obtain ⟨F, R, σD, d, σD', r, ec, k⟩ := hq0;unfold lR at ec;rcases h1 : c σD with _ | ⟨t, σ1⟩
 ·rw [h1] at ec; cases ec
 ·rw [h1] at ec; simp only [bind_some] at ec
  refine ⟨F, R, σD, t, σ1, r, h1, fun F1 H1 v x1 r1 => ?_⟩;split at ec
  ·rename_i xs
   split at ec
   ·rename_i hf
    rcases h2 : jZ pl σ1 with _ | l
    ·rw [h2] at ec; cases ec
    ·rw [h2] at ec; simp only [bind_some] at ec
     rcases h3 : jZ ph σ1 with _ | h
     ·rw [h3] at ec; cases ec
     ·rw [h3] at ec; simp only [bind_some] at ec
      split at ec
      ·cases ec
      ·rename_i hw
       cases ec;refine ⟨F1, _, _, l, r1, h2, fun F2 H2 g2 => ?_⟩;refine ⟨F2, _, _, h, r1.grow g2, h3, fun F3 H3 g3 => ?_⟩;have r3 := (r1.grow g2).grow g3;obtain ⟨a, vs, L, rfl, sq, ol⟩ := (r3.bor (d := .tup xs) (v := v) (by simp)).tupH;have hL := fF hf ol;subst hL;refine ⟨a, vs, rfl, .inl (Rd.of sq), by rw [ol.length]; exact hw, fun pp hp => ?_⟩;have oc : OwL X.K F3 H3 (fO xs l h) (jJ vs l h) [] := by
        unfold fO jJ;rw [<- ol.length];exact (ol.drop).take
       obtain ⟨F5, x5, r5⟩ := (Rel.pushL oc r3.pop).layT oc.length.symm hp;exact k F5 _ _ ((x1.trans (g2.x.trans g3.x)).trans x5) r5
   ·cases ec
  ·cases ec
theorem sy : CallR X (.type "list") (fun vs H Q => ∃ a xs, vs = [.ref a] /\ mq X.K H a xs /\ ∀ p, H p = none -> Q (.ref p) (bq H p (.lst xs))) := by
 rintro ab s σ H vs us Q I rv ⟨a, xs, e, sq, q⟩;subst e;obtain ⟨u, rfl, ru⟩ := gD rv;cases ru;obtain ⟨its, r, ⟨o, hg, hc, n, hd⟩, hz⟩ := I.tuple sq;refine call_list_seq a (.inr rfl) hg hc hd (fun h' c' hk hn => ?_) (by rw [List.size_toArray, <- r.length]; exact hz);exact ⟨.ref s.heap.objs.size, _, I.laid (o := .lst xs) hk (Nat.le_refl _) ⟨hz, its, c', r, hn⟩, rfl, q _ I.fresh⟩
theorem uV {x : Str} {p1 pos : Pos} (hg : Gl X x) (hm : X.mg x = none) (hv : bootBuiltins x = some (.type "list")) (ha : QE X e c) (hn : autoParam (x ≠ "__name__") cz._auto_1) (hdb : autoParam ((x == ("__debug__" : Str)) = false) cz._auto_1)
  (he : autoParam (starEach [e] X.env = (false, eval e X.env) :: starEach [] X.env) bj._auto_1) (hpl : autoParam ((backTo pos (starEach [] X.env)).any (·.1) = false) bj._auto_1) : QE X (.Call (.Name x p1) [e] [] pos) (j9 c) :=
 bH (jm sy hg hm hv (eB ha fZ he) hn hdb he hpl) fun σ H Q hq0 => by
  obtain ⟨F, R, σD, d, σD', r, ec, k⟩ := hq0;unfold j9 at ec;rcases h1 : c σD with _ | ⟨t, σ1⟩
  ·rw [h1] at ec; cases ec
  ·rw [h1] at ec; simp only [bind_some] at ec
   split at ec
   ·rename_i xs
    split at ec
    ·rename_i hf
     cases ec;refine ⟨F, R, σD, _, _, r, h1, fun F1 H1 v x1 r1 => ?_⟩;obtain ⟨a, ws, L, rfl, sq, ol⟩ := (r1.bor (d := .tup xs) (v := v) (by simp)).tupH;have hL := fF hf ol;subst hL;refine ⟨a, ws, rfl, .inl (Rd.of sq), fun p hp => ?_⟩;obtain ⟨r2, x2⟩ := (Rel.pushL ol r1.pop).layL ol.length.symm hp;exact k F1 _ _ (x1.trans x2) r2
    ·cases ec
   ·cases ec
end
end DD
namespace TT
open PySem L2 DD PySem.W
section
variable {S : Type} {α β γ : Type} {Z Z1 : bc S}
theorem wJ {c : DE} {r : Rl α} [k : Fl r] {f : S -> Option ((α × α × α) × S)} (h : JE Z c f (aa r r r) Z1) : JE Z (j9 (lR c none (some (pC (.int 2))))) (fun s => (f s).map fun p => ([p.1.1, p.1.2.1], p.2)) (rL r) Z1 := fun s σ v s' hs e => by
 obtain ⟨⟨⟨a1, a2, a3⟩, s1⟩, e1, e⟩ := mp e;cases e;obtain ⟨d, σ1, h1, ⟨x, y, z, rfl, r1, r2, r3⟩, hs1⟩ := h s σ _ _ hs e1;have f1 := k.f _ _ r1;have f2 := k.f _ _ r2;have f3 := k.f _ _ r3;refine ⟨.lst true [x, y], σ1, ?_, ⟨[x, y], rfl, .cons r1 (.cons r2 .nil)⟩, hs1⟩;have hsl : lR c none (some (pC (.int 2))) σ = some (.tup [x, y], σ1) := by
  simp only [lR, h1, bind_some, dA, f1, f2, f3, Bool.and_self, if_true];rfl
 simp only [j9, hsl, bind_some, dA, f1, f2, Bool.and_self, if_true]
noncomputable def iF (p : Int × Int × Int) : List Int := [p.1, p.2.1, p.2.2]
noncomputable def jj (xs : List (Int × Int × Int)) : Option (List (Int × Int × Int)) := (dr (iZ (xs.map iF)) xs.length).bind fun q => if (q.all fun i => decide (i < xs.length)) = true then some (q.map fun i => xs.getD i (0, 0, 0)) else none
theorem All2.tups3 : ∀ {xs : List (Int × Int × Int)} {ds : List D}, All2 (aa rI rI rI) xs ds -> ji ds = some (xs.map iF)
 | _, _, .nil => rfl
 | _, _, .cons ⟨x, y, z, e, h1, h2, h3⟩ t => by
  cases h1; cases h2; cases h3;subst e;simp only [ji, DD.tupK, i5, map_some, bind_some, All2.tups3 t, List.isEmpty_cons, Bool.false_eq_true, if_false, List.map_cons, iF]
theorem All2.pick {r : Rl α} {xs : List α} {ds : List D} (h : All2 r xs ds) (d0 : α) : ∀ q : List Nat, (q.all fun i => decide (i < xs.length)) = true -> All2 r (q.map fun i => xs.getD i d0) (q.map fun i => ds.getD i .non)
 | [], _ => .nil
 | i :: q, hq => by
  simp only [List.all_cons, Bool.and_eq_true, decide_eq_true_eq] at hq;refine .cons ?_ (All2.pick h d0 q hq.2);have hl := h.len;obtain ⟨d, hd, rd⟩ := h.get (i := i) (a := xs[i]) (by simp [hq.1]);obtain ⟨h3, rfl⟩ := List.getElem?_eq_some_iff.mp hd;simpa [List.getD, hq.1, h3] using rd
theorem wI {c : DE} {rl : Rl (List (Int × Int × Int))} [l : Ls rl (aa rI rI rI)] {f : S -> Option (List (Int × Int × Int) × S)} (h : JE Z c f rl Z1) : JE Z (j8 c) (fun s => (f s).bind fun p => (jj p.1).map fun ys => (ys, p.2)) (rL (aa rI rI rI)) Z1 := fun s σ v s' hs e => by
 obtain ⟨⟨xs, s1⟩, e1, e⟩ := bd e;obtain ⟨ys, e2, e⟩ := mp e;cases e;obtain ⟨d, σ1, h1, rd, hs1⟩ := h s σ _ _ hs e1;obtain ⟨o, ds, rfl, hh⟩ := l.l xs d rd;unfold jj at e2;obtain ⟨q, e3, e4⟩ := bd e2;split at e4
 ·rename_i hq
  cases e4;refine ⟨.lst true (q.map fun i => ds.getD i .non), σ1, ?_, ⟨_, rfl, hh.pick _ q hq⟩, hs1⟩;simp only [j8, h1, bind_some, hh.flat', if_true, xt, hh.tups3, <- hh.len, e3, map_some]
 ·cases e4
end
end TT
namespace DD
open PySem PySem.Spec PyProof.Rows L2
section
variable {X : Cx} {e f : Expr} {c c' : DE} {pos p2 : Pos}
end
end DD
namespace TT
open PySem L2 DD
section
variable {S : Type} {α β γ : Type} {Z Z1 Z2 : bc S}
end
end TT
namespace PySem.W
open PySem PySem.Calls PyProof.Rows PyProof.V PySem.Spec
noncomputable def RawAt (h : Heap) (d : Addr) (es : Array DictEntry) (ep : Nat) : Prop := ∃ o, h.get? d = some o /\ o.ExactDict /\ o.data = .dict es ep
section
variable {prog : Program} {w : World} {A : Around} {E : Value -> Shared -> Prop} {s : Shared} {it d v : Addr} {i ep : Nat} {es : Array DictEntry}
theorem RawAt.lt {h : Heap} (x : RawAt h d es ep) : d < h.objs.size := by obtain ⟨o, e, _⟩ := x; exact Heap.lt_size e
theorem RawAt.on {h h' : Heap} (x : RawAt h d es ep) (k : ∀ o, h.get? d = some o -> h'.get? d = some o) : RawAt h' d es ep := by
 obtain ⟨o, e, r⟩ := x;exact ⟨o, k _ e, r⟩
theorem qo {Q : Option Value -> Shared -> Prop} (hit : s.heap.IsKeyIter it d i es.size ep) (hm : RawAt s.heap d es ep) (hh : i < es.size \/ A.handled = none)
  (hI : ∀ (hlt : i < es.size) h', h'.IsKeyIter it d (i + 1) es.size ep -> Heap.SameBut it s.heap h' -> Q (some es[i].key) { s with heap := h' })
  (hE : es.size <= i -> ∀ h', Heap.ExtBut it s.heap h' -> Q none { s with heap := h' }) : wpAny (model prog w) A (pyNext (.ref it)) Q E s := by
 obtain ⟨o, ho, hc, hd⟩ := id hit;obtain ⟨od, hod, hcd, hdd⟩ := id hm;unfold pyNext;refine wpAny_bind (wpAny_attempt (wpAny_callSpecial?_slot (name := Str.ofString "__next__") hit.typeIs F.slot_dict_keyiterator_next (wpAny_call_entry F.slot_dict_keyiterator_next hit.typeIs F.entry_dict_keyiterator_next ?_ (F.args_dict_keyiterator_next_1 _))));refine wpAny_bind (wpAny_pure ?_); refine wpAny_bind ?_; refine wpAny_bind ?_;refine wpAny_bind (wpAny_typeNameOfWhole_keyiter hit.typeIs (wpAny_pure ?_)); refine wpAny_bind (wpAny_fieldsOf ho hd ?_);have own : Builtin.Dict_items.ownsTuple "dict_keyiterator" = false := by decide
 simp only [own, Bool.false_eq_true, if_false];show wpAny _ _ (if (Value.ref d == Value.none) = true then _ else _) _ _ s; rw [if_neg (show ¬ ((Value.ref d == Value.none) = true) from Bool.false_ne_true)];refine wpAny_bind (wpAny_pure ?_); refine wpAny_bind (wpAny_dictEntries hod hdd ?_);rw [if_neg (show ¬ (((es.size : Nat) : Int) != (es.size : Nat)) = true by simp)]; refine wpAny_bind (wpAny_pure ?_);refine wpAny_bind (wpAny_dictEpoch hod hdd ?_); rw [if_neg (show ¬ (((ep : Nat) : Int) != (ep : Nat)) = true by simp)];refine wpAny_pure ?_;have h0 : ¬ ((i : Int) < 0) := by omega
 by_cases hlt : i < es.size
 ·simp only [h0, if_false, Int.toNat_natCast, Array.getElem?_eq_getElem hlt]
  refine wpAny_bind ?_; refine wpAny_bind (wpAny_typeNameOfWhole_keyiter hit.typeIs (wpAny_pure ?_));refine wpAny_bind (wpAny_isOneOf_keyiter hit.typeIs ?_);show wpAny _ _ (setField (.ref it) 1 (rawInt ((i : Int) + 1)) >>= _) _ _ s; refine wpAny_bind (wpAny_setField ho hd (by simp) ?_);have hit' : (s.heap.update it (Obj.mapFields (·.setIfInBounds 1 (rawInt ((i : Int) + 1))))).IsKeyIter it d (i + 1) es.size ep := ⟨_, Heap.get?_update_self _ ho (Obj.isFreed_of_fields (Obj.data_mapFields hd _)), (Obj.cls_mapFields ..).trans hc, by rw [Obj.data_mapFields hd]; simp [rawInt]⟩;refine wpAny_bind (wpAny_holding (wpAny_bind (wpAny_isOneOf_keyiter (s := { s with heap := s.heap.update it (Obj.mapFields (·.setIfInBounds 1 (rawInt ((i : Int) + 1)))) }) hit'.typeIs ?_)));show wpAny _ _ (pure es[i].key) _ _ _;exact wpAny_pure (wpAny_pure ⟨_, rfl, wpAny_pure (hI hlt _ hit' (Heap.SameBut.update ..))⟩)
 ·have hge : es.size <= i := by omega
  have hh' : A.handled = none := hh.resolve_left hlt;simp only [h0, if_false, Int.toNat_natCast, Array.getElem?_eq_none hge];refine wpAny_bind ?_; refine wpAny_bind (wpAny_typeNameOfWhole_keyiter hit.typeIs (wpAny_pure ?_));show wpAny _ _ (setField (.ref it) 0 .none >>= _) _ _ s; refine wpAny_bind (wpAny_setField ho hd (by simp) ?_);show wpAny _ _ (newExc (.type "StopIteration") [] >>= _) _ _ _; refine wpAny_bind ?_;simp only [newExc, newTuple];refine wpAny_bind (wpAny_newObj_type ?_ (by size_fits)); refine wpAny_bind (m := firstArgMember _ _) (wpAny_of_eq (a := Value.none) rfl ?_);refine wpAny_newObj_type ?_ (by size_fits);simp only [raiseNew];refine wpAny_bind (wpAny_handled ?_); rw [show A.in1.handled = none from hh'];refine wpAny_bind (wpAny_pure (wpAny_throw ?_)); refine wpAny_bind (wpAny_isInstance (T := "StopIteration") (b := true) ⟨_, Heap.get?_push_size _ rfl, rfl⟩ isSubtype_stop ?_);exact wpAny_pure (hE hge _ (((Heap.SameBut.update ..).extBut.push _).push _))
theorem wf (hh : A.handled = none) (I d : Addr) (hne : d ≠ I) (es : Array DictEntry) (ep : Nat) :
  Walks prog w A I [I, d] [I] es.size (fun i v => ∃ e, es[i]? = some e /\ v = e.key) (fun i h => h.IsKeyIter I d i es.size ep /\ RawAt h d es ep) where
 sub := fun b hb => by simp at hb; simp [hb]
 frame := fun _ _ _ st k => ⟨st.1.at fun o e => k I (by simp) o e, st.2.on fun o e => k d (by simp) o e⟩
 item := fun i s Q E hi st hQ => qo st.1 st.2 (.inl hi) (fun hlt h' hit' hs => hQ _ h' s.toks ⟨es[i], by simp [hi], rfl⟩ ⟨hit', st.2.on fun o e => hs.extBut d o hne e⟩ fun b o hb e => hs.extBut b o (fun h => hb (by simp [h])) e) fun hge => absurd hi (Nat.not_lt.mpr hge)
 done := fun s Q E st hQ => qo st.1 st.2 (.inr hh) (fun hlt => absurd hlt (Nat.lt_irrefl _)) fun _ h' he => hQ h' s.toks fun b o hb e => he b o (fun h => hb (by simp [h])) e
 self := fun _ _ _ _ st hQ => wpAny_pyIter_keyiter st.1 hQ
theorem tY {Q : Value -> Shared -> Prop} (hv : KdlKeysView s.heap v d) (hm : RawAt s.heap d es ep)
  (hQ : Q (.ref s.heap.objs.size) { s with heap := s.heap.push { cls := .type "dict_keyiterator", data := .fields #[.ref d, .int 0 0, .int es.size 0, .int ep 0] } }) : wpAny (model prog w) A (pyIter (.ref v)) Q E s := by
 obtain ⟨ov, hov, hcv, hdv⟩ := id hv;obtain ⟨o, ho, hc, hdat⟩ := hm;refine wpAny_pyIter_slot hv.typeIs kdl_slot_keys_iter (wpAny_call_entry kdl_slot_keys_iter hv.typeIs kdl_entry_keys_iter ?_ (kdl_args_keys_iter _)); unfold Builtin.«dict_keys.__iter__»;refine wpAny_bind (wpAny_pure ?_); refine wpAny_bind ?_;unfold Builtin.Dict_items.dictOf; refine wpAny_bind (wpAny_field hov hdv (x := .ref d) rfl (wpAny_pure ?_)); refine wpAny_bind ?_;unfold Builtin.Dict_items.newIterator; refine wpAny_bind (wpAny_dictEntries ho hdat ?_); refine wpAny_bind (wpAny_dictEpoch ho hdat ?_);have own : Builtin.Dict_items.ownsTuple "dict_keyiterator" = false := by decide
 simp only [own, Bool.false_eq_true, if_false];refine wpAny_newObj_type (wpAny_pure ⟨_, rfl, "dict_keyiterator", _, ⟨_, Heap.get?_push_size _ rfl, rfl⟩, PySem.F.slot_dict_keyiterator_next.lookup, ?_⟩); simpa [rawInt] using hQ
theorem ym : KdlSrc prog w "dict_keys" v d es.size (fun i u => ∃ e, es[i]? = some e /\ u = e.key) (fun h => KdlKeysView h v d /\ RawAt h d es ep) where
 type := fun _ m => m.1.typeIs
 there := fun _ m => ⟨by obtain ⟨_, e, _⟩ := m.1; exact Heap.lt_size e, m.2.lt⟩
 keep := fun _ _ m k => ⟨by obtain ⟨o, e, x⟩ := m.1; exact ⟨o, k v (.inl rfl) o e, x⟩, m.2.on fun o e => k d (.inr rfl) o e⟩
 notList := by decide
 notTuple := by decide
 hint := fun _ _ _ _ m q => kdl_hint_keys m.1.typeIs q
 iter := fun _ _ hh m => ⟨_, _, (fun _ _ q => tY m.1 m.2 q), wf hh _ d (Nat.ne_of_lt m.2.lt) es ep, ⟨⟨_, Heap.get?_push_size _ rfl, rfl, rfl⟩, m.2.on fun _ e => Heap.get?_push_of_some _ e⟩⟩
theorem sh {Q : List Value -> Shared -> Prop} (hh : A.handled = none) (hv : KdlKeysView s.heap v d) (hm : RawAt s.heap d es ep) (hz : es.size <= sizeLine)
  (h : ∀ h' tk, s.heap.objs.size <= h'.objs.size -> (∀ b o, s.heap.get? b = some o -> h'.get? b = some o) -> Q (es.toList.map (·.key)) { s with heap := h', toks := tk }) : wpAny (model prog w) A (collect (.ref v)) Q E s := by
 unfold collect;refine wpAny_bind (wpAny_runValue (codeAny_builtin entry_proto_collect' ?_));show wpAny _ _ (do again (.builtin "list.__iadd__" ⟨[<- newList [], .ref v], []⟩)) _ _ s;have K := ym (prog := prog) (w := w) (v := v) (d := d) (es := es) (ep := ep);have hlt := K.there _ ⟨hv, hm⟩;refine wpAny_bind (wpAny_newList (wpAny_pure ⟨Code.quiet_builtin _ (by decide +kernel), codeAny_builtin entry_list_iadd' ?_⟩));rw [Around.under_plainId (show plainId "list.__iadd__" = true by decide +kernel) _];refine kdl_extend (A := A) (s := { s with heap := s.heap.push (seqObj "list" #[] 0) }) (R := fun r s' => match r with | .ok (.ret v) => wpAny (model prog w) A (match v with | .ref a => do { let o <- load a; match o.data with | .seq xs _ => pure xs.toList | _ => unsupported "internal:collect" } | _ => unsupported "internal:collect") Q E s' | .ok _ => False | .error e => E e s') K hh (K.keep _ _ ⟨hv, hm⟩ fun b _ o e => Heap.get?_push_of_some _ e) s.heap.objs.size (Nat.ne_of_gt hlt.1) (Nat.ne_of_gt hlt.2) (.ref s.heap.objs.size) 0 (Heap.get?_push_size _ rfl) (fun h' tk acc' c' hk hS' hacc => ?_) hz;refine wpAny_bind (wpAny_load hS' (wpAny_pure ?_));have e : acc'.toList = es.toList.map (·.key) := by
  apply List.ext_getElem?;intro j;rcases hj : acc'.toList[j]? with _ | u
  ·have h1 : acc'.size <= j := by simpa using hj
   rw [hacc.1] at h1
   symm
   simpa using h1
  ·obtain ⟨x, hx, rfl⟩ := hacc.2 j u (by simpa using hj)
   simp [hx]
 show Q acc'.toList _; rw [e];exact h h' tk (Nat.le_of_lt (Heap.lt_size hS')) fun b o eb => hk b o (Nat.ne_of_lt (Heap.lt_size eb)) (Heap.get?_push_of_some _ eb)
end
end PySem.W
namespace PySem.W
open PySem PySem.Calls PyProof.Rows
section
variable {prog : Program} {w : World} {A : Around} {E : Value -> Shared -> Prop} {s : Shared} {vs : List Value} {κ : SortKind} {lt : Nat -> Nat -> Option Bool}
theorem uE {l : Addr} {Q : Value -> Shared -> Prop} {q : List Nat}
  (hcol : ∀ (B : Around) (E' : Value -> Shared -> Prop) (Q' : List Value -> Shared -> Prop), B.handled = A.handled -> (∀ h' tk, s.heap.objs.size <= h'.objs.size -> Kp s.heap h' -> Q' vs { s with heap := h', toks := tk }) -> wpAny (model prog w) B (collect (.ref l)) Q' E' s)
  (hk : 2 <= vs.length -> ∀ h' tk, Kp s.heap h' -> ∀ Q : SortKind -> Shared -> Prop, Q κ { s with heap := h', toks := tk } -> wpAny (model prog w) A.in1.in1 (keyKind' vs.toArray) Q (fun _ _ => False) { s with heap := h', toks := tk })
  (hlt : ∀ h' tk, Kp s.heap h' -> ∀ i j b, lt i j = some b -> ∀ C : Bool -> Shared -> Prop, C b { s with heap := h', toks := tk } -> kas_ask prog w A.in1.in1 κ vs i j C { s with heap := h', toks := tk })
  (hr : dr lt vs.length = some q)
  (hQ : ∀ D h' tk c, q.length = vs.length -> s.heap.objs.size <= D -> Kp s.heap h' -> h'.get? D = some (seqObj "list" (List.toArray (q.map fun i => vs.getD i Value.none)) c) -> Q (.ref D) { s with heap := h', toks := tk }) :
  wpAny (model prog w) A (call (.builtin "sorted") [.ref l]) Q E s := by
 have h64 : vs.length < 64 := by
  unfold dr at hr;split at hr
  ·omega
  ·split at hr
   ·assumption
   ·cases hr
 refine Calls.call_function_entry kind_sorted plain_sorted entry_sorted (args_sorted1 _) ?_;unfold Builtin.«sorted»;refine wpAny_bind (m := checkCount "sorted" 1 1 _) (wpAny_pure ?_);refine wpAny_bind (hcol _ _ _ rfl fun h1 tk hsz k1 => ?_);refine wpAny_bind (wpAny_newList ?_ (by rw [sizeLine_eq]; omega));have hoL : (h1.push (seqObj "list" vs.toArray 0)).get? h1.objs.size = some (seqObj "list" vs.toArray 0) := Heap.get?_push_size _ rfl;have keep : Kp s.heap (h1.push (seqObj "list" vs.toArray 0)) := fun b o e => Heap.get?_push_of_some _ (k1 b o e)
 have hD0 : s.heap.get? h1.objs.size = none := Heap.get?_none_of_le hsz;show wpAny _ _ _ _ _ { s with heap := h1.push (seqObj "list" vs.toArray 0), toks := tk };refine wpAny_bind (wpAny_holding (wpAny_call_entry slot_list_sort ⟨_, hoL, rfl⟩ entry_list_sort ?body (args_list_sort _)))
 case body =>
  unfold dr at hr;split at hr
  ·rename_i hs
   cases hr;have e : ((List.range vs.length).map fun i => vs.getD i Value.none) = vs := by
    apply List.ext_getElem
    ·simp
    ·intro i h1 h2
     simp at h1;simp [h1]
   refine kL (s := { s with heap := h1.push (seqObj "list" vs.toArray 0), toks := tk }) (h₀ := s.heap) keep hoL hD0 hs fun h' c k' g' => ⟨_, rfl, wpAny_pure ⟨_, rfl, ?_⟩⟩
   exact hQ _ h' tk c (by simp) hsz k' (by rw [e]; exact g')
  ·rename_i hs
   rcases hz : cI lt (kas_sort vs.length) with _ | p
   ·rw [hz] at hr; cases hr
   ·rw [hz] at hr
    ·cases hr
     exact lW (s := { s with heap := h1.push (seqObj "list" vs.toArray 0), toks := tk }) (h₀ := s.heap) keep hoL hD0 oM h64 (fun h' k' Q' hq => wpAny_mono (hk oM h' tk k' Q' hq) (fun _ _ z => z) fun _ _ z => z.elim) (fun h' k' i j b e C hC => hlt h' tk k' i j b e C hC) hz fun h' c hp k' g' => ⟨_, rfl, wpAny_pure ⟨_, rfl, hQ _ h' tk c (by rw [Array.length_toList]; exact hp) hsz k' g'⟩⟩
end
end PySem.W
namespace L2
open PySem PySem.Spec PySem.Calls PyProof.Rows PySem.W
theorem sr {prog : Program} {w : World} (d : Addr) (hd : (d == sysModules) = false) :
  MeetsIn prog w (Builtin.«dict.keys» ⟨[.ref d], []⟩) (fun _ R s => s.TypeIs (.ref d) "dict" /\ R (.ok (.ret (.ref s.heap.objs.size))) { s with heap := s.heap.push { cls := .type "dict_keys", data := .fields #[.ref d] } }) :=
 .of_wp fun A R s hq0 => by
  obtain ⟨hT, h⟩ := hq0;refine wpAny_bind ?_;unfold Builtin.Dict.noArgs; refine wpAny_bind (wpAny_notOrdered_dict hT ?_);show wpAny _ _ (pure d) _ _ s; refine wpAny_pure ?_;show wpAny _ _ (Builtin.Dict.showsAll d >>= _) _ _ s; unfold Builtin.Dict.showsAll;rw [if_neg (by rw [hd]; exact Bool.false_ne_true)]; exact wpAny_bind (wpAny_pure (wpAny_bind (wpAny_newObj_type (wpAny_pure ⟨_, rfl, h⟩))))
noncomputable def Bf : V -> List V -> Hp -> VK -> Prop := fun x vs H Q => ∃ d kvs, x = .ref d /\ vs = [] /\ H d = some (.dT kvs) /\ ∀ p, H p = none -> Q (.ref p) (bq H p (.ext fun h => KdlKeysView h p d))
theorem yS {H : Hp} {ks : List (List Int)} : ∀ {xs : List (List bi × Addr × Value)}, KT H (tK (ks.map fun k => k.map Sum.inl)) xs -> Paired (fun (a : Addr) k => H a = some (.tup (k.map .int))) (xs.map (·.2.1)) ks := by
 induction ks with
 | nil => intro xs r; cases r; exact .nil
 | cons k ks ih =>
  intro xs r;cases r with | cons r1 r2 =>
  refine .cons ?_ (ih r2);have h1 := r1.2.1;rw [List.map_map] at h1;exact h1
theorem sj {K : PySem.W.Frag} {H : Hp} {as : List Addr} {ks : List (List Int)} (h : Paired (fun (a : Addr) k => H a = some (.tup (k.map .int))) as ks) (hk : ∀ k ∈ ks, k ≠ []) : Paired (nU K H) (as.map .ref) ks := by
 induction h with
 | nil => exact .nil
 | cons r _ ih => exact .cons ⟨hk _ (by simp), _, rfl, .inl (Rd.of r)⟩ (ih fun k hk' => hk k (List.mem_cons_of_mem _ hk'))
theorem o9 : ∀ as : List Addr, Vals (as.map V.ref) (as.map Value.ref)
 | [] => .nil
 | _ :: as => .cons rfl (o9 as)
section
variable {X : Cx}
theorem yM : AV X "dict.keys" Bf := by
 intro ab s σ H x vs v us Q I rx rv h;obtain ⟨d, kvs, ex, ev, hd, q⟩ := h;subst ex; subst ev;cases rx;cases rv;obtain ⟨_, hsm, xs, _, o, es, ep, g1, g2, g3, _⟩ := (show ObjOk X.prog X.w H s.heap d (.dT kvs) from I.hok d _ hd);have hT : s.TypeIs (.ref d) "dict" := ⟨o, g1, g2.1⟩;refine call_meetsIn PySem.F.slot_dict_keys hT PySem.F.entry_dict_keys (PySem.F.args_dict_keys_1 _) (sr d hsm) ⟨hT, ?_⟩;refine ⟨.ref s.heap.objs.size, _, I.laid (a := s.heap.objs.size) (o := .ext fun h => KdlKeysView h s.heap.objs.size d) (t' := s.toks) (fun b o e => Heap.get?_push_of_some _ e) (Nat.le_refl _) ?_, rfl, q _ I.fresh⟩;refine ⟨⟨_, Heap.get?_push_size _ rfl, rfl, rfl⟩, ⟨_, Heap.get?_push_size _ rfl⟩, fun h1 h2 ⟨o, e, r⟩ k => ⟨o, k o e, r⟩⟩
theorem uu (hc : X.calm = true) : CallR X (.builtin "sorted") (fun vs H Q => ∃ v d ks q, vs = [.ref v] /\ H v = some (.ext fun h => KdlKeysView h v d) /\ H d = some (.dT (tK (ks.map fun k => k.map Sum.inl))) /\ (∀ k ∈ ks, k ≠ []) /\ dr (iZ ks) ks.length = some q /\
  ∀ (as : List Addr) p, Paired (fun (a : Addr) k => H a = some (.tup (k.map .int))) as ks -> H p = none -> Q (.ref p) (bq H p (.lst (q.map fun i => (as.map V.ref).getD i .non)))) := by
 rintro ab s σ H vs us Q I rv ⟨v, d, ks, q, e, hv, hd, hne, hq, k⟩;subst e;obtain ⟨u, rfl, ru⟩ := gD rv;cases ru;have hh : X.A.handled = none := I.ok.hd hc;obtain ⟨hz, hsm, xs, rel, o, es, ep, g1, g2, g3, g4, _⟩ := (show ObjOk X.prog X.w H s.heap d (.dT (tK (ks.map fun k => k.map Sum.inl))) from I.hok d _ hd);have hvv : KdlKeysView s.heap v d := (show ObjOk X.prog X.w H s.heap v (.ext fun h => KdlKeysView h v d) from I.hok v _ hv).1;have hpa := yS rel;have hK := sj (K := X.K) hpa hne;have hlen : xs.length = ks.length := by have := Paired.length hpa; simpa using this
 have hvs : es.toList.map (·.key) = (xs.map (·.2.1)).map Value.ref := by
  rw [g4, List.map_map, List.map_map];apply List.map_congr_left;intro x _; rfl
 have hes : es.size = xs.length := by rw [<- Array.length_toList, g4, List.length_map]
 have r : Vals ((xs.map (·.2.1)).map V.ref) ((xs.map (·.2.1)).map Value.ref) := o9 _;have hl1 : ((xs.map (·.2.1)).map Value.ref).length = ks.length := by simp [hlen]
 have hzk : ks.length <= sizeLine := by unfold tK at hz; simpa using hz
 refine uE (vs := (xs.map (·.2.1)).map Value.ref) (κ := tuples' true) (lt := iZ ks) (q := q) (fun B E' Q' hB hQ' => ?_) (fun h2 h' tk kp Q' hQ' => ?_) (fun h' tk kp i j b hb C hC => ?_) (by rw [hl1]; exact hq) (fun D h' tk c hl2 hD kp g => ?_)
 ·refine sh (hB.trans hh) hvv ⟨o, g1, g2, g3⟩ (by rw [hes, hlen]; exact hzk) fun h' tk hs kp => ?_
  rw [hvs];exact hQ' h' tk hs kp
 ·obtain ⟨fs, t, hl, hf⟩ := jD I kp hK r
  refine kat_kind (s := { s with heap := h', toks := tk }) (T := .type "int") t oM (fun v hv => ?_) rfl hQ';obtain ⟨x, t', rfl⟩ := hf v hv;exact Looks.of_pure rfl
 ·unfold iZ at hb
  rcases hi : ks[i]? with _ | x
  ·rw [hi] at hb; cases hb
  ·rw [hi] at hb
   rcases hj : ks[j]? with _ | y
   ·rw [hj] at hb; cases hb
   ·rw [hj] at hb
    cases hb;obtain ⟨a1, o1, i1, n1, e1, g1, c1, d1, v1⟩ := jK I hK r i x hi;obtain ⟨a2, o2, i2, n2, e2, g2, c2, d2, v2⟩ := jK I hK r j y hj;unfold kas_ask;rw [show ((xs.map (·.2.1)).map Value.ref).getD i Value.none = .ref a1 by simp only [List.getD, e1, Option.getD_some], show ((xs.map (·.2.1)).map Value.ref).getD j Value.none = .ref a2 by simp only [List.getD, e2, Option.getD_some]];have l1 := v1.length;have l2 := v2.length;simp only [List.length_map, Array.length_toList] at l1 l2;refine kat_lt (s := { s with heap := h', toks := tk }) (kp _ _ g1) d1 (kp _ _ g2) d2 ?_;rw [<- l1, <- l2];exact mR v1 v2 hC
 ·exact ⟨.ref D, _, I.laid (t' := tk) (o := .lst (q.map fun i => ((xs.map (·.2.1)).map V.ref).getD i .non)) kp hD ⟨by rw [List.length_map, hl2, hl1]; exact hzk, _, c, pb r q, g⟩, rfl, k _ _ hpa (I.hok.fresh hD)⟩
end
end L2
namespace DD
open PySem PySem.Spec PyProof.Rows L2 PySem.W
section
variable {K : PySem.W.Frag} {F : Addr -> Prop} {H : Hp}
mutual
theorem Ow.nt : ∀ {d : D} {v : V} {L : List Addr}, Ow K F H d v L -> ∀ a ∈ L, ∀ vs, H a ≠ some (.tup vs)
 | .hole, _, _, h, a, ha => by simp only [Ow] at h; subst h; cases ha
 | .cell, _, _, h, a, ha => by
  simp only [Ow] at h;obtain ⟨b, o, rfl, e, rfl⟩ := h;rw [List.mem_singleton.mp ha];intro vs q;rw [e] at q;obtain ⟨o, n⟩ := o;cases q;exact n
 | .node _ _, _, _, h, a, ha => by simp only [Ow] at h; obtain ⟨rfl, e, rfl⟩ := h; rw [List.mem_singleton.mp ha, e]; intro vs q; cases q
 | .pin _ ⟨o, n⟩, _, _, h, a, ha => by
  simp only [Ow] at h;obtain ⟨rfl, e, rfl⟩ := h;rw [List.mem_singleton.mp ha, e];intro vs q;cases q;exact n
 | .non, _, _, h, a, ha => by simp only [Ow] at h; rw [h.2] at ha; cases ha
 | .bl _, _, _, h, a, ha => by simp only [Ow] at h; rw [h.2] at ha; cases ha
 | .int _, _, _, h, a, ha => by simp only [Ow] at h; rw [h.2] at ha; cases ha
 | .str _, _, _, h, a, ha => by simp only [Ow] at h; rw [h.2] at ha; cases ha
 | .ty _, _, _, h, a, ha => by simp only [Ow] at h; rw [h.2] at ha; cases ha
 | .cls _, _, _, h, a, ha => by simp only [Ow] at h; rw [h.2] at ha; cases ha
 | .lst true xs, _, _, h, a, ha => by
  simp only [Ow] at h;obtain ⟨b, vs, L', rfl, e, r, rfl⟩ := h;rcases List.mem_cons.mp ha with rfl | ha
  ·rw [e]; intro vs q; cases q
  ·exact OwL.nt r a ha
 | .lst false xs, _, _, h, a, ha => by simp only [Ow] at h; obtain ⟨_, _, _, _, _, rfl⟩ := h; cases ha
 | .tup xs, _, _, h, a, ha => by simp only [Ow] at h; obtain ⟨_, _, _, _, r⟩ := h; exact OwL.nt r a ha
 | .obj true C ks xs, _, _, h, a, ha => by
  simp only [Ow] at h;obtain ⟨b, dx, vs, L', rfl, e, _, r, rfl⟩ := h;rcases List.mem_cons.mp ha with rfl | ha
  ·rw [e]; intro vs q; cases q
  ·exact OwL.nt r a ha
 | .obj false C ks xs, _, _, h, a, ha => by simp only [Ow] at h; obtain ⟨_, _, _, _, _, _, _, _, rfl⟩ := h; cases ha
 | .dct true ks xs, _, _, h, a, ha => by
  simp only [Ow] at h;obtain ⟨b, vs, L', rfl, e, _, r, rfl⟩ := h;rcases List.mem_cons.mp ha with rfl | ha
  ·rw [e]; intro vs q; cases q
  ·exact OwL.nt r a ha
 | .dct false ks xs, _, _, h, a, ha => by simp only [Ow] at h; obtain ⟨_, _, _, _, _, _, _, rfl⟩ := h; cases ha
theorem OwL.nt : ∀ {xs : List D} {vs : List V} {L : List Addr}, OwL K F H xs vs L -> ∀ a ∈ L, ∀ vs, H a ≠ some (.tup vs)
 | [], _, _, h, a, ha => by simp only [OwL] at h; rw [h.2] at ha; cases ha
 | x :: xs, _, _, h, a, ha => by
  simp only [OwL] at h;obtain ⟨v, ws, L1, L2, rfl, h1, h2, rfl⟩ := h;rcases List.mem_append.mp ha with ha | ha
  ·exact Ow.nt h1 a ha
  ·exact OwL.nt h2 a ha
end
theorem OwP.nt : ∀ {R : Ro} {L : List Addr}, OwP K F H R L -> ∀ a ∈ L, ∀ vs, H a ≠ some (.tup vs)
 | [], _, h, a, ha => by cases h; cases ha
 | (d, v) :: R, _, h, a, ha => by
  obtain ⟨L1, L2, h1, h2, rfl⟩ := h;rcases List.mem_append.mp ha with ha | ha
  ·exact h1.nt a ha
  ·exact OwP.nt h2 a ha
variable {σD : aZ} {σ : St} {R : Ro} {as : List Addr}
theorem Rel.tups (r : Rel K F H σD σ R) (h : ∀ a ∈ as, ∃ vs, H a = some (.tup vs)) : Ext F H (fun a => F a \/ a ∈ as) H /\ Rel K (fun a => F a \/ a ∈ as) H σD σ R := by
 have x : Ext F H (fun a => F a \/ a ∈ as) H := fun a fa => ⟨.inl fa, rfl⟩
 refine ⟨x, r.mt, ?_⟩;obtain ⟨L, o, n, f⟩ := r.g.own;refine ⟨⟨L, o.mono x fun _ _ => rfl, n, fun a ha fa => ?_⟩, fun a fa => ?_⟩
 ·rcases fa with fa | fa
  ·exact f a ha fa
  ·obtain ⟨vs, e⟩ := h a fa; exact o.nt a ha vs e
 ·rcases fa with fa | fa
  ·exact r.g.dom a fa
  ·obtain ⟨vs, e⟩ := h a fa; exact ⟨_, e⟩
end
noncomputable def oN : List bi -> Option (List Int)
 | [] => some []
 | .inl i :: k => (oN k).map fun r => i :: r
 | _ => none
noncomputable def ko : List (List bi) -> Option (List (List Int))
 | [] => some []
 | k :: ks => (oN k).bind fun r => if r.isEmpty = true then none else (ko ks).map fun rs => r :: rs
noncomputable def n5 (k : List Int) : D := .tup (k.map .int)
noncomputable def io (q : DP) : DE := fun σ => match q σ with
 | some (.dct _ ks xs) => if fP xs = true then (ko ks).bind fun kI => (dr (iZ kI) kI.length).bind fun r => if (r.all fun i => decide (i < kI.length)) = true then some (.lst true (r.map fun i => n5 (kI.getD i [])), σ) else none else none
 | _ => none
theorem y4 : ∀ {k : List bi} {r : List Int}, oN k = some r -> k = r.map Sum.inl := by
 intro k
 induction k with
 | nil => intro r e; cases e; rfl
 | cons x k ih =>
  intro r e;cases x with
  | inl i =>
   simp only [oN] at e;obtain ⟨r', e1, e2⟩ := bE e;subst e2;rw [ih e1]; rfl
  | inr y => simp only [oN] at e; cases e
theorem wQ : ∀ {ks : List (List bi)} {rs : List (List Int)}, ko ks = some rs -> ks = rs.map (fun k => k.map Sum.inl) /\ ∀ k ∈ rs, k ≠ [] := by
 intro ks
 induction ks with
 | nil => intro rs e; cases e; exact ⟨rfl, fun k h => nomatch h⟩
 | cons k ks ih =>
  intro rs e;simp only [ko] at e;obtain ⟨r, e1, e⟩ := Option.bind_eq_some_iff.mp e;split at e
  ·cases e
  ·rename_i hr
   obtain ⟨rs', e2, e3⟩ := bE e;subst e3;obtain ⟨h1, h2⟩ := ih e2;refine ⟨by rw [List.map_cons, <- y4 e1, <- h1], fun k' hk => ?_⟩;rcases List.mem_cons.mp hk with rfl | hk
   ·intro z; rw [z] at hr; exact hr rfl
   ·exact h2 k' hk
theorem sv {q : DP} {σ σ' : aZ} {d : D} (h : io q σ = some (d, σ')) : ∃ o ks xs kI r, q σ = some (.dct o ks xs) /\ fP xs = true /\ ko ks = some kI /\ dr (iZ kI) kI.length = some r /\ (r.all fun i => decide (i < kI.length)) = true /\ d = .lst true (r.map fun i => n5 (kI.getD i [])) /\ σ' = σ := by
 unfold io at h;split at h
 ·rename_i o ks xs hq
  split at h
  ·rename_i ht
   obtain ⟨kI, e1, h⟩ := Option.bind_eq_some_iff.mp h;obtain ⟨r, e2, h⟩ := Option.bind_eq_some_iff.mp h;split at h
   ·rename_i hr
    cases h;exact ⟨o, ks, xs, kI, r, hq, ht, e1, e2, hr, rfl, rfl⟩
   ·cases h
  ·cases h
 ·cases h
theorem qz {K : PySem.W.Frag} {F : Addr -> Prop} {H : Hp} : ∀ k : List Int, OwL K F H (k.map .int) (k.map .int) []
 | [] => by simp [OwL]
 | i :: k => by
  simp only [List.map_cons, OwL];exact ⟨_, _, [], [], rfl, Ow.of_sc rfl, qz k, rfl⟩
theorem sH {K : PySem.W.Frag} {F : Addr -> Prop} {H : Hp} {as : List Addr} {kI : List (List Int)} (h : Paired (fun (a : Addr) k => H a = some (.tup (k.map .int))) as kI) (hF : ∀ a ∈ as, F a) : ∀ r : List Nat, (r.all fun i => decide (i < kI.length)) = true -> OwL K F H (r.map fun i => n5 (kI.getD i [])) (r.map fun i => (as.map V.ref).getD i .non) []
 | [], _ => by simp [OwL]
 | i :: r, hr => by
  simp only [List.all_cons, Bool.and_eq_true, decide_eq_true_eq] at hr;simp only [List.map_cons, OwL];refine ⟨_, _, [], [], rfl, ?_, sH h hF r hr.2, rfl⟩;have hl := Paired.length h;have at_ : ∀ {as : List Addr} {kI : List (List Int)}, Paired (fun (a : Addr) k => H a = some (.tup (k.map .int))) as kI -> ∀ i, i < kI.length -> ∃ a, a ∈ as /\ (as.map V.ref).getD i .non = .ref a /\ H a = some (.tup ((kI.getD i []).map .int)) := by
   intro as kI p
   induction p with
   | nil => intro i hi; cases hi
   | cons e _ ih =>
    intro i hi;cases i with
    | zero => exact ⟨_, by simp, rfl, e⟩
    | succ i =>
     obtain ⟨a, h1, h2, h3⟩ := ih i (Nat.lt_of_succ_lt_succ hi);exact ⟨a, by simp [h1], by simpa using h2, by simpa using h3⟩
  obtain ⟨a, h1, h2, h3⟩ := at_ h i hr.1;rw [h2];simp only [n5, Ow];exact ⟨a, _, rfl, .inl ⟨hF a h1, h3⟩, qz _⟩
section
variable {X : Cx} {e : Expr} {q : DP}
theorem mJ {x : Str} {p1 apos cpos pos : Pos} (hg : Gl X x) (hm : X.mg x = none) (hv : bootBuiltins x = some (.builtin "sorted")) (ha : QB X e q) (hc : autoParam (X.calm = true) bj._auto_1) (hn : autoParam (x ≠ "__name__") cz._auto_1) (hdb : autoParam ((x == ("__debug__" : Str)) = false) cz._auto_1)
  (hbase : autoParam (attributeBase e "keys" X.env (eval e X.env) = eval e X.env) bj._auto_1) (hline : autoParam ((apos.endLine == cpos.line) = true) bj._auto_1)
  (he : autoParam (starEach [.Call (.Attribute e "keys" apos) [] [] cpos] X.env = (false, eval (.Call (.Attribute e "keys" apos) [] [] cpos) X.env) :: starEach [] X.env) bj._auto_1) (hpl : autoParam ((backTo pos (starEach [] X.env)).any (·.1) = false) bj._auto_1) : QE X (.Call (.Name x p1) [.Call (.Attribute e "keys" apos) [] [] cpos] [] pos) (io q) :=
 bH (mM (uu hc) hg hm hv (eB (zY PySem.F.plainAttrs_dict PySem.F.slot_dict_keys PySem.F.type_dict_keys yM ha hbase hline) fZ he) hn hdb he hpl) fun σ H Q hq0 => by
  obtain ⟨F, R, σD, d, σD', r, ec, k⟩ := hq0;obtain ⟨o, ks, xs, kI, rr, h1, ht, ek, es, hr, rfl, rfl⟩ := sv ec;refine ⟨F, R, σD', _, r, h1, fun F1 H1 v g1 b1 => ?_⟩;obtain ⟨a, rfl, hb, hl⟩ := b1.dct ht;obtain ⟨ei, hne⟩ := wQ ek;refine ⟨.inr (.inr (.inl ⟨rfl, .inr ⟨_, hb⟩⟩)), a, _, rfl, rfl, hb, fun p hp => ?_⟩;obtain ⟨r2, x2⟩ := (r.grow g1).alloc (o := .ext fun h => KdlKeysView h p a) hp;have hap : a ≠ p := dG hb hp;refine ⟨p, a, kI, rr, rfl, cW, by rw [bL hap, hb, ei], hne, es, fun as p2 hpa hp2 => ?_⟩;obtain ⟨x3, r3⟩ := r2.pop.tups (as := as) (fun b hb' => by
   have al : ∀ {as : List Addr} {kI : List (List Int)} {H' : Hp}, Paired (fun (a : Addr) k => H' a = some (.tup (k.map .int))) as kI -> ∀ b ∈ as, ∃ vs, H' b = some (.tup vs) := by
    intro as kI H' p
    induction p with
    | nil => intro b hb; cases hb
    | cons e _ ih =>
     intro b hb;rcases List.mem_cons.mp hb with rfl | hb
     ·exact ⟨_, e⟩
     ·exact ih b hb
   exact al hpa b hb')
  have oc := sH (K := X.K) (F := fun c => F1 c \/ c ∈ as) hpa (fun b hb => .inr hb) rr hr;obtain ⟨r4, x4⟩ := (Rel.pushL oc r3).layL oc.length.symm hp2;exact k _ _ _ (((g1.x.trans x2).trans x3).trans x4) r4
end
end DD
namespace TT
open PySem L2 DD PySem.W
section
variable {S : Type} {Z : bc S}
theorem qT : ∀ ks : List K3, ko (ks.map k3) = some (ks.map iF)
 | [] => rfl
 | k :: ks => by simp only [List.map_cons, ko, k3, oN, map_some, bind_some, List.isEmpty_cons, Bool.false_eq_true, if_false, qT ks]; rfl
theorem u7 (ks : List K3) : ∀ r : List Nat, (r.all fun i => decide (i < ks.length)) = true -> All2 (aa rI rI rI) (r.map fun i => ks.getD i (0, 0, 0)) (r.map fun i => n5 ((ks.map iF).getD i []))
 | [], _ => .nil
 | i :: r, hq => by
  simp only [List.all_cons, Bool.and_eq_true, decide_eq_true_eq] at hq;refine .cons ?_ (u7 ks r hq.2);have e5 : (ks.map iF).getD i [] = iF (ks.getD i (0, 0, 0)) := by simp [List.getD, hq.1]
  dsimp only;rw [e5];exact ⟨_, _, _, rfl, rfl, rfl, rfl⟩
theorem mV {q : DP} {f : S -> Option (List K3)} (h : JP Z q f gY) : JE Z (io q) (fun s => (f s).bind fun a => (jj a).map fun ys => (ys, s)) (rL (aa rI rI rI)) Z := fun s σ v s' hs e => by
 obtain ⟨ks, e1, e⟩ := bd e;obtain ⟨ys, e2, e⟩ := mp e;cases e;obtain ⟨d, h1, rd⟩ := h s σ _ hs e1;cases rd;unfold jj at e2;obtain ⟨r, e3, e4⟩ := bd e2;split at e4
 ·rename_i hq
  cases e4;refine ⟨.lst true (r.map fun i => n5 ((ks.map iF).getD i [])), σ, ?_, ⟨_, rfl, ?_⟩, hs⟩
  ·have hl : (ks.map iF).length = ks.length := List.length_map ..
   simp only [io, h1, jc, if_true, qT, bind_some, hl, e3, hq]
  ·exact u7 ks r hq
 ·cases e4
end
end TT
namespace DD
open PySem PySem.Spec PyProof.Rows L2
section
variable {X : Cx}
end
end DD
namespace TT
open PySem L2 DD
end TT
namespace DD
open PySem PySem.Spec PyProof.Rows L2
section
variable {K : PySem.W.Frag} {F F' : Addr -> Prop} {H H' : Hp} {A : List Addr}
open Classical in
noncomputable def Bn (H : Hp) (a : Addr) : D := match H a with
 | some o => if h : NT o then .pin a ⟨o, h⟩ else .hole
 | none => .hole
noncomputable def ab (H : Hp) (M : List Addr) : Ro := M.map fun a => (Bn H a, V.ref a)
variable {σD : aZ} {σ : L2.St} {R : Ro} {d : D} {v : V}
end
section
variable {X : Cx} {e : Expr} {c : DE}
end
end DD
namespace TT
open PySem L2 DD
section
variable {α β γ δ : Type}
end
section
variable {S : Type} {α β : Type} {Z Z1 Z2 : bc S}
end
end TT
namespace DD
open PySem PySem.Spec PyProof.Rows L2
section
variable {X : Cx} {e o : Expr} {es : List Expr} {ps : List DP} {p : DP} {pos apos cpos : Pos} {i : Nat} {js : List DP}
end
end DD
namespace TT
open PySem L2 DD
section
variable {S : Type} {α β γ δ : Type} {Z : bc S}
end
section
variable {S : Type} {α : Type} {Z Z1 : bc S}
end
end TT
namespace PySem.W
open PySem.Calls PyProof.Rows PySem.Spec PySem.MeetsSeq3
section
end
end PySem.W
namespace L2
open PySem PySem.Spec PySem.Calls PyProof.Rows PySem.W
section
variable {X : Cx} {ab : List (Addr × Obj)} {σ : St} {H : Hp} {s : Shared} {h' : Heap}
end
end L2
namespace DD
open PySem PySem.Spec PyProof.Rows L2 PySem.W
section
variable {X : Cx} {e b : Expr} {c : DE} {sts : List Stmt}
end
end DD
namespace TT
open PySem L2 DD PySem.W
section
variable {S : Type} {α β ρ : Type} {Z Z1 Z2 : bc S} {E : Ex S ρ}
end
end TT
namespace TT
open PySem L2 DD
section
variable {S : Type} {α β : Type} {Z Z1 Z2 : bc S}
end
end TT
namespace DD
open PySem PySem.Spec PyProof.Rows L2
section
variable {X : Cx} {s : DS} {pos : Pos} {W' : List Nat} {body : List Stmt}
end
end DD
namespace TT
open PySem L2 DD
section
variable {S : Type} {α β ρ : Type} {Z Zb : bc S} {E : Ex S ρ}
end
end TT
namespace PySem
open Sem (wp)
section
variable {prog : Program} {w : World} {A : Around} {E : Value -> Shared -> Prop} {s : Shared}
end
section
variable {prog : Program} {w : World} {A : Around} {E : Value -> Shared -> Prop} {s : Shared}
end
end PySem
namespace L2
open PySem PySem.Spec PyProof.Rows
end L2
namespace DD
open PySem PySem.Spec PyProof.Rows L2
section
variable {X : Cx} {a b e : Expr} {c c' : DE} {p p1 pos1 : Pos} {elts : List Expr} {x1 : Nat} {tpos pos : Pos}
end
end DD
namespace TT
open PySem L2 DD PySem.W
section
variable {S : Type} {α β : Type} {Z Z1 Z2 : bc S} {c c' : DE}
noncomputable def l4 (p : α × α × α × α) : List α := [p.1, p.2.1, p.2.2.1, p.2.2.2]
end
section
variable {α β γ δ α' β' γ' δ' : Type}
end
end TT
namespace L2
open PySem PySem.Spec PyProof.Rows
section
variable {X : Cx}
end
end L2
namespace DD
open PySem PySem.Spec PyProof.Rows L2
section
variable {X : Cx} {o e : Expr} {c c' : DE} {apos cpos : Pos}
end
end DD
namespace TT
open PySem L2 DD PySem.W
section
variable {S : Type} {Z Z1 Z2 : bc S} {c c' : DE}
end
end TT
namespace L2
open PySem PySem.Spec PyProof.Rows
section
variable {X : Cx}
end
end L2
namespace DD
open PySem PySem.Spec PyProof.Rows L2
section
variable {X : Cx}
end
end DD
namespace TT
open PySem L2 DD PySem.W
end TT
namespace L2
open PySem PySem.Spec PyProof.Rows
section
variable {X : Cx}
end
end L2
namespace DD
open PySem PySem.Spec PyProof.Rows L2
section
variable {X : Cx} {e : Expr} {lo hi : Option Expr} {pl ph : Option DP} {c : DE} {pos p2 : Pos}
end
end DD
namespace TT
open PySem L2 DD PySem.W
section
variable {S : Type} {Z Z1 : bc S} {c : DE}
end
end TT
namespace L2
open PySem PySem.Spec PyProof.Rows
section
variable {X : Cx} {tg : Expr}
end
end L2
namespace DD
open PySem PySem.Spec PyProof.Rows L2
section
variable {X : Cx} {tg e : Expr} {c : DE}
end
end DD
namespace TT
open PySem L2 DD PySem.W
section
variable {S : Type} {Z Z1 : bc S} {c : DE}
end
end TT
namespace L2
open PySem PySem.Spec PyProof.Rows
noncomputable abbrev CW := St -> Hp -> Str -> (Str -> Hp -> Prop) -> Prop
section
variable {X : Cx} {e e1 e2 : Expr} {es : List Expr} {te : TE} {t : CW} {pos : Pos}
end
end L2
namespace DD
open PySem PySem.Spec PyProof.Rows L2
section
variable {X : Cx} {e e1 e2 : Expr} {es : List Expr} {c : DE} {cs : List DE} {pos : Pos}
end
end DD
namespace TT
open PySem L2 DD PySem.W
section
variable {S : Type} {Z Z1 Z2 : bc S} {c : DE} {cs : List DE}
end
end TT
namespace DD
open PySem PySem.Spec PyProof.Rows L2
end DD
namespace TT
open PySem L2 DD PySem.W
section
variable {S : Type} {Z Z1 Z2 : bc S} {c c' : DE}
end
end TT
namespace L2
open PySem PySem.Spec PyProof.Rows
end L2
namespace DD
open PySem PySem.Spec PyProof.Rows L2
section
variable {X : Cx} {e : Expr} {lo hi : Option Expr} {pl ph : Option DP} {p : DP} {pos p2 : Pos}
end
end DD
namespace TT
open PySem L2 DD PySem.W
section
variable {S : Type} {α : Type} {Z : bc S}
end
end TT
namespace L2
open PySem PySem.Spec PyProof.Rows
end L2
namespace DD
open PySem PySem.Spec PyProof.Rows L2
section
variable {X : Cx} {st : Stmt} {sts : List Stmt} {s s1 s2 : DS} {W W1 W2 : List Nat}
end
section
variable {X : Cx} {s1 s2 : DS} {pos : Pos} {W1 W2 : List Nat} {body : List Stmt}
end
end DD
namespace TT
open PySem L2 DD
section
variable {S : Type} {α τ ρ : Type} {Z Z1 Zb Z2 : bc S} {E : Ex S ρ}
end
end TT
namespace DD
open PySem PySem.Spec PyProof.Rows L2
section
variable {X : Cx} {e1 e2 : Expr} {pos : Pos}
end
end DD
namespace TT
open PySem L2 DD
section
variable {S : Type} {α β γ δ ρ : Type} {Z : bc S}
end
end TT
namespace L2
open PySem PySem.Spec PyProof.Rows PySem.W
section
variable {prog : Program} {w : World} {A : Around} {E : Value -> Shared -> Prop} {s : Shared}
end
section
variable {X : Cx} {ab : List (Addr × Obj)} {σ : St} {H1 : Hp} {s1 : Shared} {l1 l2 n : Nat} {its1 its2 : List Value} {vs us : List V} {A : Around}
end
section
variable {X : Cx} {ab : List (Addr × Obj)} {σ : St} {H1 : Hp} {s1 : Shared} {l1 l2 : Nat} {its1 its2 : List Value} {vs us : List V} {A : Around} {E : Value -> Shared -> Prop}
end
section
variable {X : Cx} {a b : Expr} {ta : TA} {p1 p2 pos pos2 : Pos}
end
end L2
namespace DD
open PySem PySem.Spec PyProof.Rows L2
section
variable {X : Cx} {a b : Expr} {ca : DA} {p1 p2 pos pos2 : Pos}
end
end DD
namespace TT
open PySem L2 DD
section
variable {S : Type} {α β : Type} {Z Z1 : bc S}
end
end TT
namespace L2
open PySem PySem.Spec PyProof.Rows
section
variable {X : Cx}
end
end L2
namespace DD
open PySem PySem.Spec PyProof.Rows L2
section
variable {X : Cx} {a : Expr} {c : DE} {p1 pos1 tpos : Pos} {elts : List Expr} {x1 : Nat}
end
section
variable {X : Cx} {o e : Expr} {c c' : DE} {apos cpos : Pos}
end
end DD
namespace TT
open PySem L2 DD PySem.W
section
variable {S : Type} {Z Z1 Z2 : bc S} {c c' : DE}
end
end TT
namespace TT
open PySem L2 DD
section
variable {S : Type} {α β γ : Type} {Z : bc S}
end
end TT
namespace RK
open PySem PySem.W PyProof.Rows
theorem du {α β : Type} {lt : Nat -> Nat -> Option Bool} {f : α -> KasT β} : ∀ t : KasT α, cI lt (t.bind f) = (cI lt t).bind fun a => cI lt (f a)
 | .ret _ => rfl
 | .ask i j k => by
  show ((lt i j).bind fun b => cI lt ((k b).bind f)) = ((lt i j).bind fun b => cI lt (k b)).bind fun a => cI lt (f a)
  cases lt i j with
  | none => rfl
  | some b => exact du (k b)
noncomputable def ltN (n : Nat) (key : Nat -> Int) (i j : Nat) : Option Bool := if i < n /\ j < n then some (decide (key i < key j)) else none
noncomputable def Pm (n : Nat) (p : Array Nat) : Prop := p.toList.Perm (List.range n)
section
variable {n : Nat} {key : Nat -> Int} {p : Array Nat}
theorem Pm.size (h : Pm n p) : p.size = n := by simpa using h.length_eq
theorem Pm.lt (h : Pm n p) {a : Nat} (ha : a < n) : p.getD a 0 < n := by
 have hs := h.size;have e : p.getD a 0 = p[a]'(by omega) := by simp [Array.getD, show a < p.size by omega]
 have hm : p[a]'(by omega) ∈ p.toList := by simp
 have := h.mem_iff.mp hm
 rw [e]; simpa using this
theorem Pm.inj (h : Pm n p) {a b : Nat} (ha : a < n) (hb : b < n) (e : p.getD a 0 = p.getD b 0) : a = b := by
 have hs := h.size;have nd : p.toList.Nodup := h.symm.nodup List.nodup_range;rw [show p.getD a 0 = p.toList[a]'(by simpa using (by omega : a < p.size)) by simp [Array.getD, show a < p.size by omega], show p.getD b 0 = p.toList[b]'(by simpa using (by omega : b < p.size)) by simp [Array.getD, show b < p.size by omega]] at e;have np := List.pairwise_iff_getElem.mp nd;rcases Nat.lt_trichotomy a b with hab | hab | hab
 ·exact absurd e (np a b _ _ hab)
 ·exact hab
 ·exact absurd e.symm (np b a _ _ hab)
noncomputable def nY (n : Nat) (key : Nat -> Int) : Prop := ∀ i j, i < n -> j < n -> key i = key j -> i = j
noncomputable def KK (key : Nat -> Int) (p : Array Nat) (a : Nat) : Int := key (p.getD a 0)
theorem uB (hk : nY n key) (h : Pm n p) {a b : Nat} (ha : a < n) (hb : b < n) (ne : a ≠ b) : KK key p a ≠ KK key p b := fun e => ne (h.inj ha hb (hk _ _ (h.lt ha) (h.lt hb) e))
theorem gj (h : Pm n p) {a b : Nat} (ha : a < n) (hb : b < n) : ltN n key (p.getD a 0) (p.getD b 0) = some (decide (KK key p a < KK key p b)) := by
 unfold ltN KK;rw [if_pos ⟨h.lt ha, h.lt hb⟩]
theorem oW (hk : nY n key) (h : Pm n p) : ∀ f m, 1 <= m -> m + f = n -> ∃ m', cI (ltN n key) (kas_asc p f m) = some m' /\ m <= m' /\ m' <= n /\ (∀ a, m <= a -> a < m' -> KK key p (a - 1) < KK key p a) /\ (m' < n -> KK key p m' < KK key p (m' - 1))
 | 0, m, h1, h2 => ⟨m, rfl, Nat.le_refl _, by omega, fun a _ _ => by omega, fun _ => by omega⟩
 | f + 1, m, h1, h2 => by
  simp only [kas_asc, cI, gj h (show m < n by omega) (show m - 1 < n by omega), bind_some];by_cases c : KK key p m < KK key p (m - 1)
  ·rw [decide_eq_true c]
   exact ⟨m, rfl, Nat.le_refl _, by omega, fun a _ _ => by omega, fun _ => c⟩
  ·rw [decide_eq_false c]
   simp only [Bool.false_eq_true, if_false];obtain ⟨m', e, g1, g2, g3, g4⟩ := oW hk h f (m + 1) oM oM;refine ⟨m', e, by omega, g2, fun a ha hb => ?_, g4⟩;by_cases hm : a = m
   ·subst hm
    have := uB hk h (show a < n by omega) (show a - 1 < n by omega) oM
    omega
   ·exact g3 a oM hb
theorem rg (hk : nY n key) (h : Pm n p) : ∀ f m, 1 <= m -> m + f = n -> ∃ m', cI (ltN n key) (kas_desc f p m 0) = some (p, m', 0) /\ m <= m' /\ m' <= n /\ (∀ a, m <= a -> a < m' -> KK key p a < KK key p (a - 1))
 | 0, m, h1, h2 => ⟨m, rfl, Nat.le_refl _, by omega, fun a _ _ => by omega⟩
 | f + 1, m, h1, h2 => by
  simp only [kas_desc, cI, gj h (show m < n by omega) (show m - 1 < n by omega), bind_some];by_cases c : KK key p m < KK key p (m - 1)
  ·rw [decide_eq_true c]
   simp only [if_true];rw [if_neg oM];obtain ⟨m', e, g1, g2, g3⟩ := rg hk h f (m + 1) oM oM;refine ⟨m', e, by omega, g2, fun a ha hb => ?_⟩;by_cases hm : a = m
   ·subst hm; exact c
   ·exact g3 a oM hb
  ·rw [decide_eq_false c]
   simp only [Bool.false_eq_true, if_false, cI, gj h (show m - 1 < n by omega) (show m < n by omega), bind_some]
   have := uB hk h (show m < n by omega) (show m - 1 < n by omega) oM
   rw [decide_eq_true (show KK key p (m - 1) < KK key p m by omega)];exact ⟨m, rfl, Nat.le_refl _, by omega, fun a _ _ => by omega⟩
theorem Pm.rev (h : Pm n p) (i j : Nat) : Pm n (kas_rev p i j) := (Array.perm_iff_toList_perm.mp (mirror_perm p i j ((j - i) / 2))).trans h
theorem Pm.bub (h : Pm n p) (i j : Nat) : Pm n (bubble p i j) := (Array.perm_iff_toList_perm.mp (bubble_perm p i j)).trans h
theorem uQ (h : Pm n p) {m a : Nat} (hm : m <= n) : KK key (kas_rev p 0 m) a = if a < m then KK key p (m - 1 - a) else KK key p a := by
 have e := getElem?_mirror_all (xs := p) (i := 0) (j := m) (by rw [h.size]; exact hm) a;unfold KK;have g : ∀ (q : Array Nat) b, q.getD b 0 = (q[b]?).getD 0 := fun q b => by simp
 rw [g, show (kas_rev p 0 m)[a]? = _ from e];by_cases ha : a < m
 ·rw [if_pos ⟨Nat.zero_le _, ha⟩, if_pos ha, g, show 0 + m - 1 - a = m - 1 - a by omega]
 ·rw [if_neg oM, if_neg ha, g]
theorem vW (h : Pm n p) {k l a : Nat} (hk : k < n) (hl : l <= k) : KK key (bubble p k (k - l)) a = if a = l then KK key p k else if l < a /\ a <= k then KK key p (a - 1) else KK key p a := by
 have e := getElem?_bubble (xs := p) (src := k) (by rw [h.size]; exact hk) (k - l) oM a;unfold KK;have g : ∀ (q : Array Nat) b, q.getD b 0 = (q[b]?).getD 0 := fun q b => by simp
 rw [g, e, show k - (k - l) = l by omega];by_cases h1 : a = l
 ·rw [if_pos h1, if_pos h1, g]
 ·rw [if_neg h1, if_neg h1]
  by_cases h2 : l < a /\ a <= k
  ·rw [if_pos h2, if_pos h2, g]
  ·rw [if_neg h2, if_neg h2, g]
noncomputable def Up (key : Nat -> Int) (p : Array Nat) (m : Nat) : Prop := ∀ a, 1 <= a -> a < m -> KK key p (a - 1) < KK key p a
theorem Up.lt {m : Nat} (u : Up key p m) : ∀ {a b : Nat}, a < b -> b < m -> KK key p a < KK key p b
 | a, b + 1, h1, h2 => by
  have s := u (b + 1) oM h2;rw [show b + 1 - 1 = b by omega] at s;by_cases h : a = b
  ·subst h; exact s
  ·have := Up.lt u (show a < b by omega) oM
   omega
theorem vP (hk : nY n key) (h : Pm n p) (h2 : 2 <= n) : ∃ m q, cI (ltN n key) (kas_count n p) = some (m, q) /\ 1 <= m /\ m <= n /\ Pm n q /\ Up key q m := by
 unfold kas_count;rw [du];obtain ⟨m, e, g1, g2, g3, g4⟩ := oW hk h (n - 1) 1 oM oM;rw [e];simp only [bind_some];by_cases hm : m = n
 ·rw [if_pos (by simp [hm])]
  exact ⟨m, p, rfl, g1, g2, h, fun a ha hb => g3 a ha hb⟩
 ·rw [if_neg (by simpa using hm)]
  by_cases h1 : m > 1
  ·rw [if_pos h1]
   have up : Up key p m := fun a ha hb => g3 a ha hb
   simp only [cI, gj h (show 0 < n by omega) (show m - 1 < n by omega), bind_some];rw [decide_eq_true (up.lt (show 0 < m - 1 by omega) oM)];exact ⟨m, p, rfl, g1, g2, h, up⟩
  ·rw [if_neg h1]
   have hm1 : m = 1 := by omega
   subst hm1;have s0 := g4 oM;unfold kas_descPart;rw [du];obtain ⟨d, e2, d1, d2, d3⟩ := rg hk h (n - (1 + 1)) (1 + 1) oM oM;rw [e2];simp only [bind_some];rw [if_neg oM];unfold kas_tail3;rw [du];have hr := h.rev 0 d;obtain ⟨m', e3, f1, f2, f3, _⟩ := oW hk hr (n - d) d oM oM;rw [e3];refine ⟨m', _, rfl, by omega, f2, hr, fun a ha hb => ?_⟩;by_cases had : a < d
   ·rw [uQ h d2, uQ h d2, if_pos oM, if_pos had]
    have := d3 (d - 1 - (a - 1))
    by_cases hx : d - 1 - (a - 1) = 1
    ·rw [hx, show d - 1 - a = 0 by omega]; exact s0
    ·have := this oM oM
     rw [show d - 1 - (a - 1) - 1 = d - 1 - a by omega] at this;exact this
   ·exact f3 a oM hb
theorem kU (hk : nY n key) (h : Pm n p) {k : Nat} (hkn : k < n) (u : Up key p k) : ∀ f l r, l <= r -> r <= k -> r - l <= f -> (∀ a, a < l -> KK key p a < KK key p k) -> (∀ a, r <= a -> a < k -> KK key p k < KK key p a) ->
  ∃ l', cI (ltN n key) (kas_place p k f l r) = some l' /\ l' <= k /\ (∀ a, a < l' -> KK key p a < KK key p k) /\ (∀ a, l' <= a -> a < k -> KK key p k < KK key p a)
 | 0, l, r, h1, h2, h3, h4, h5 => ⟨l, rfl, by omega, h4, fun a ha hb => h5 a oM hb⟩
 | f + 1, l, r, h1, h2, h3, h4, h5 => by
  unfold kas_place;by_cases hlr : l ≥ r
  ·rw [if_pos hlr]
   exact ⟨l, rfl, by omega, h4, fun a ha hb => h5 a oM hb⟩
  ·rw [if_neg hlr]
   have hm : (l + r) / 2 < r := by omega
   have hm2 : l <= (l + r) / 2 := by omega
   generalize (l + r) / 2 = mid at hm hm2;simp only [cI, gj h hkn (show mid < n by omega), bind_some];by_cases c : KK key p k < KK key p mid
   ·rw [decide_eq_true c]
    simp only [if_true];refine kU hk h hkn u f l mid hm2 oM oM h4 fun a ha hb => ?_
    by_cases hx : a = mid
    ·subst hx; exact c
    ·have := u.lt (show mid < a by omega) hb
     omega
   ·rw [decide_eq_false c]
    simp only [Bool.false_eq_true, if_false];have ne := uB hk h hkn (show mid < n by omega) oM;refine kU hk h hkn u f (mid + 1) r oM h2 oM (fun a ha => ?_) h5;by_cases hx : a = mid
    ·subst hx; omega
    ·have := u.lt (show a < mid by omega) oM
     omega
theorem tq (hk : nY n key) : ∀ f (p : Array Nat) k, Pm n p -> 1 <= k -> k + f = n -> Up key p k -> ∃ q, cI (ltN n key) (kas_bin f p k) = some q /\ Pm n q /\ Up key q n
 | 0, p, k, h, h1, h2, u => ⟨p, rfl, h, by rw [show n = k by omega]; exact u⟩
 | f + 1, p, k, h, h1, h2, u => by
  unfold kas_bin;rw [du];obtain ⟨l, e, g1, g2, g3⟩ := kU hk h (show k < n by omega) u k 0 k oM (Nat.le_refl _) oM (fun a ha => by omega) (fun a ha hb => by omega);rw [e];refine tq hk f (bubble p k (k - l)) (k + 1) (h.bub _ _) oM oM fun a ha hb => ?_
  rw [vW h (show k < n by omega) g1, vW h (show k < n by omega) g1];by_cases c1 : a = l
  ·subst c1
   rw [if_neg oM, if_neg oM, if_pos rfl];exact g2 _ oM
  ·rw [if_neg c1]
   by_cases c2 : l < a /\ a <= k
   ·rw [if_pos c2]
    by_cases c3 : a - 1 = l
    ·rw [if_pos c3, c3]
     exact g3 l (Nat.le_refl _) oM
    ·rw [if_neg c3, if_pos oM]
     exact u (a - 1) oM oM
   ·rw [if_neg c2, if_neg oM, if_neg oM]
    exact u a ha oM
theorem wb (hk : nY n key) (h2 : 2 <= n) : ∃ q, cI (ltN n key) (kas_sort n) = some q /\ Pm n q /\ Up key q n := by
 unfold kas_sort;rw [du];have hr : Pm n (List.toArray (List.range n)) := List.Perm.refl _;obtain ⟨m, q, e, g1, g2, g3, g4⟩ := vP hk hr h2;rw [e];simp only [bind_some];by_cases hm : m < n
 ·rw [if_pos hm]
  rw [show max m 1 = m by omega];exact tq hk (n - m) q m g3 g1 oM g4
 ·rw [if_neg hm]
  exact ⟨q, rfl, g3, by rw [show n = m by omega]; exact g4⟩
theorem uL (hk : nY n key) (h64 : n < 64) : ∃ q, dr (ltN n key) n = some q /\ q.Perm (List.range n) /\ q.Pairwise fun i j => key i < key j := by
 unfold dr;by_cases h2 : n < 2
 ·rw [if_pos h2]
  refine ⟨_, rfl, List.Perm.refl _, ?_⟩;have : n = 0 \/ n = 1 := by omega
  rcases this with rfl | rfl
  ·exact .nil
  ·exact List.pairwise_singleton _ _
 ·rw [if_neg h2, if_pos h64]
  obtain ⟨q, e, g1, g2⟩ := wb hk oM;rw [e];refine ⟨q.toList, rfl, g1, ?_⟩;rw [List.pairwise_iff_getElem];intro i j hi hj hij;have hs := g1.size;have hi' : i < q.size := by simpa using hi
  have hj' : j < q.size := by simpa using hj
  have := g2.lt hij oM
  unfold KK at this;simpa [Array.getD, hi', hj'] using this
end
end RK
namespace RK
open PySem PySem.W
section
variable {n : Nat} {key : Nat -> Int}
theorem xO {p : Array Nat} (h : Pm n p) : ∀ f m, 1 <= m -> m + f = n -> ∃ m', cI (ltN n key) (kas_asc p f m) = some m' /\ 1 <= m' /\ m' <= n := by
 intro f
 induction f with
 | zero => exact fun m h1 h2 => ⟨m, rfl, h1, by omega⟩
 | succ f ih =>
  intro m h1 h2;simp only [kas_asc, cI, gj h (show m < n by omega) (show m - 1 < n by omega), bind_some];split
  ·exact ⟨m, rfl, h1, by omega⟩
  ·exact ih (m + 1) oM oM
theorem AM : ∀ f (p : Array Nat) m q, Pm n p -> 1 <= m -> m + f = n -> ∃ r, cI (ltN n key) (kas_desc f p m q) = some r /\ Pm n r.1 /\ 1 <= r.2.1 /\ r.2.1 <= n := by
 intro f
 induction f with
 | zero => exact fun p m q h h1 h2 => ⟨_, rfl, h, h1, by dsimp only; omega⟩
 | succ f ih =>
  intro p m q h h1 h2;simp only [kas_desc, cI, gj h (show m < n by omega) (show m - 1 < n by omega), bind_some];split
  ·split
   ·exact ih _ (m + 1) 0 (h.rev _ _) oM oM
   ·exact ih p (m + 1) 0 h oM oM
  ·simp only [cI, gj h (show m - 1 < n by omega) (show m < n by omega), bind_some]
   split
   ·exact ⟨_, rfl, h, h1, by dsimp only; omega⟩
   ·exact ih p (m + 1) (q + 1) h oM oM
theorem uJ {p : Array Nat} (h : Pm n p) {d : Nat} (h1 : 1 <= d) (h2 : d <= n) : ∃ r, cI (ltN n key) (kas_tail3 d n p) = some r /\ 1 <= r.1 /\ r.1 <= n /\ Pm n r.2 := by
 unfold kas_tail3;rw [du];obtain ⟨m, e, g1, g2⟩ := xO (key := key) (h.rev 0 d) (n - d) d h1 oM;rw [e];exact ⟨_, rfl, g1, g2, h.rev 0 d⟩
theorem vc {p : Array Nat} (h : Pm n p) {m : Nat} (h1 : 1 <= m) (h2 : m < n) : ∃ r, cI (ltN n key) (kas_descPart m n p) = some r /\ 1 <= r.1 /\ r.1 <= n /\ Pm n r.2 := by
 unfold kas_descPart;rw [du];obtain ⟨r, e, g1, g2, g3⟩ := AM (key := key) (n - (m + 1)) p (m + 1) 0 h oM oM;rw [e];simp only [bind_some];split
 ·exact uJ (g1.rev _ _) g2 g3
 ·exact uJ g1 g2 g3
theorem ze {p : Array Nat} (h : Pm n p) (h2 : 2 <= n) : ∃ r, cI (ltN n key) (kas_count n p) = some r /\ 1 <= r.1 /\ r.1 <= n /\ Pm n r.2 := by
 unfold kas_count;rw [du];obtain ⟨m, e, g1, g2⟩ := xO (key := key) h (n - 1) 1 oM oM;rw [e];simp only [bind_some];by_cases hm : m = n
 ·rw [if_pos (by simp [hm])]
  exact ⟨_, rfl, g1, g2, h⟩
 ·rw [if_neg (by simpa using hm)]
  split
  ·simp only [cI, gj h (show 0 < n by omega) (show m - 1 < n by omega), bind_some]
   split
   ·exact ⟨_, rfl, g1, g2, h⟩
   ·exact vc (h.rev _ _) g1 oM
  ·exact vc h g1 oM
theorem yB {p : Array Nat} (h : Pm n p) {k : Nat} (hkn : k < n) : ∀ f l r, r <= k -> ∃ l', cI (ltN n key) (kas_place p k f l r) = some l' := by
 intro f
 induction f with
 | zero => exact fun l r _ => ⟨l, rfl⟩
 | succ f ih =>
  intro l r h2;unfold kas_place;by_cases hlr : l ≥ r
  ·rw [if_pos hlr]; exact ⟨l, rfl⟩
  ·rw [if_neg hlr]
   have hm : (l + r) / 2 < r := by omega
   generalize (l + r) / 2 = mid at hm;simp only [cI, gj h hkn (show mid < n by omega), bind_some];split
   ·exact ih l mid oM
   ·exact ih (mid + 1) r h2
theorem BO : ∀ f (p : Array Nat) k, Pm n p -> k + f = n -> ∃ q, cI (ltN n key) (kas_bin f p k) = some q /\ Pm n q := by
 intro f
 induction f with
 | zero => exact fun p k h _ => ⟨p, rfl, h⟩
 | succ f ih =>
  intro p k h h2;unfold kas_bin;rw [du];obtain ⟨l, e⟩ := yB (key := key) h (show k < n by omega) k 0 k (Nat.le_refl _);rw [e];exact ih _ (k + 1) (h.bub _ _) oM
theorem wc (h64 : n < 64) : ∃ q, dr (ltN n key) n = some q /\ q.Perm (List.range n) := by
 unfold dr;by_cases h2 : n < 2
 ·rw [if_pos h2]; exact ⟨_, rfl, List.Perm.refl _⟩
 ·rw [if_neg h2, if_pos h64]
  have hr : Pm n (List.toArray (List.range n)) := List.Perm.refl _;obtain ⟨r, e, g1, g2, g3⟩ := ze (key := key) hr oM;have : ∃ q, cI (ltN n key) (kas_sort n) = some q /\ Pm n q := by
   unfold kas_sort;rw [du, e];simp only [bind_some];split
   ·rw [show max r.1 1 = r.1 by omega]; exact BO _ _ _ g3 oM
   ·exact ⟨_, rfl, g3⟩
  obtain ⟨q, e2, g⟩ := this;rw [e2];exact ⟨q.toList, rfl, g⟩
end
end RK
namespace LW
open PySem L2 DD
noncomputable def eV (i : Nat) : Stmt := PySem.Challenge.pw_telltight_k61_steps_looked_at.main.body.getD i (.Pass ⟨0, 0, 0, 0⟩)
noncomputable abbrev fV : Stmt := eV 1
noncomputable abbrev ie : Stmt := eV 7
noncomputable abbrev ii : Stmt := eV 12
noncomputable abbrev iU : Stmt := eV 15
noncomputable abbrev jO : Stmt := eV 16
noncomputable abbrev jP : Stmt := eV 18
noncomputable abbrev iT : Stmt := eV 19
noncomputable abbrev dt : Stmt := eV 3
noncomputable abbrev gF : Stmt := eV 8
noncomputable abbrev jN : Stmt := eV 17
noncomputable abbrev iW : Stmt := eV 20
noncomputable abbrev jM : Stmt := eV 4
noncomputable abbrev dO : Stmt := eV 9
noncomputable abbrev ig : Stmt := eV 21
noncomputable abbrev iV : Stmt := eV 22
noncomputable abbrev jQ : Stmt := eV 24
noncomputable abbrev eZ : Stmt := eV 25
noncomputable abbrev eY : Stmt := eV 26
noncomputable abbrev fU : Stmt := eV 6
noncomputable abbrev fT : Stmt := eV 10
noncomputable abbrev iS : Stmt := eV 23
noncomputable abbrev jR : Stmt := eV 27
noncomputable abbrev dX : Stmt := eV 11
noncomputable abbrev fC : Stmt := eV 13
noncomputable abbrev nv : Stmt := eV 28
theorem qh : bO ["n"] ["n"] (bh fV) := ⟨rfl, rfl, rfl, by decide +kernel, rfl, by decide +kernel, by decide +kernel⟩
theorem tU : bO ["one", "other", "known"] ["one", "other", "known"] (bh ie) := ⟨rfl, rfl, rfl, by decide +kernel, rfl, by decide +kernel, by decide +kernel⟩
theorem tV : bO ["steps", "one", "other", "more"] ["steps", "one", "other", "more"] (bh ii) := ⟨rfl, rfl, rfl, by decide +kernel, rfl, by decide +kernel, by decide +kernel⟩
theorem sc_lmixed : bO ["_law_cell", "_law_k", "_law_number"] ["_law_cell", "_law_k"] (bh iU) := ⟨rfl, rfl, rfl, by decide +kernel, rfl, by decide +kernel, by decide +kernel⟩
theorem sc_lpile : bO ["_law_script", "_law_k", "_law_cell"] ["_law_script", "_law_k"] (bh jO) := ⟨rfl, rfl, rfl, by decide +kernel, rfl, by decide +kernel, by decide +kernel⟩
theorem we : bO ["_law_i", "_law_j", "_law_g"] ["_law_i", "_law_j", "_law_g"] (bh jP) := ⟨rfl, rfl, rfl, by decide +kernel, rfl, by decide +kernel, by decide +kernel⟩
theorem sc_lpairs : bO ["_law_n", "_law_found", "_law_i", "_law_j"] ["_law_n"] (bh iT) := ⟨rfl, rfl, rfl, by decide +kernel, rfl, by decide +kernel, by decide +kernel⟩
theorem sc_pairs_with_known : bO ["n", "i", "j", "both"] ["n", "i", "j"] (bh dt) := ⟨rfl, rfl, rfl, by decide +kernel, rfl, by decide +kernel, by decide +kernel⟩
theorem sc_steps_of : bO ["i", "j", "k", "g", "one", "other"] ["i", "j", "k", "g"] (bh gF) := ⟨rfl, rfl, rfl, by decide +kernel, rfl, by decide +kernel, by decide +kernel⟩
theorem sc_ltake : bO ["_law_pile_here", "_law_many", "_law_digit"] ["_law_pile_here", "_law_many"] (bh jN) := ⟨rfl, rfl, rfl, by decide +kernel, rfl, by decide +kernel, by decide +kernel⟩
theorem sc_lbring : bO ["_law_n", "_law_found", "_law_i", "_law_j", "_law_g", "_law_k"] ["_law_n"] (bh iW) := ⟨rfl, rfl, rfl, by decide +kernel, rfl, by decide +kernel, by decide +kernel⟩
theorem sc_rules : bO ["n", "found", "i", "j"] ["n"] (bh jM) := ⟨rfl, rfl, rfl, by decide +kernel, rfl, by decide +kernel, by decide +kernel⟩
theorem sc_steps_of_names : bO ["n", "i", "j", "k", "three", "found", "g"] ["n", "i", "j", "k"] (bh dO) := ⟨rfl, rfl, rfl, by decide +kernel, rfl, by decide +kernel, by decide +kernel⟩
theorem sc_lclosed : bO ["_law_n", "_law_pairs_here", "_law_there", "_law_pair_here", "_law_rows", "_law_many", "_law_first", "_law_second", "_law_more"] ["_law_n", "_law_pairs_here"] (bh ig) := ⟨rfl, rfl, rfl, by decide +kernel, rfl, by decide +kernel, by decide +kernel⟩
theorem sc_ldrawn : bO ["_law_script", "_law_start", "_law_n", "_law_every", "_law_rows", "_law_found", "_law_k", "_law_pile_here", "_law_way"] ["_law_script", "_law_start"] (bh iV) := ⟨rfl, rfl, rfl, by decide +kernel, rfl, by decide +kernel, by decide +kernel⟩
theorem sc_lmade : bO ["_law_n", "_law_pairs_here", "_law_there", "_law_pair_here", "_law_steps", "_law_rows", "_law_many", "_law_first", "_law_second", "_law_more"] ["_law_n", "_law_pairs_here"] (bh jQ) := ⟨rfl, rfl, rfl, by decide +kernel, rfl, by decide +kernel, by decide +kernel⟩
theorem sc_lbent_found : bO ["_law_found", "_law_pile_here", "_law_pair_here", "_law_way", "_law_at"] ["_law_found", "_law_pile_here", "_law_pair_here"] (bh eZ) := ⟨rfl, rfl, rfl, by decide +kernel, rfl, by decide +kernel, by decide +kernel⟩
theorem sc_lbent_steps : bO ["_law_steps", "_law_pile_here", "_law_drawn_here", "_law_way", "_law_at", "_law_one", "_law_other", "_law_more", "_law_some"] ["_law_steps", "_law_pile_here", "_law_drawn_here"] (bh eY) := ⟨rfl, rfl, rfl, by decide +kernel, rfl, by decide +kernel, by decide +kernel⟩
theorem qg : bO ["n"] ["n"] (bh fU) := ⟨rfl, rfl, rfl, by decide +kernel, rfl, by decide +kernel, by decide +kernel⟩
theorem sc_all_steps : bO ["n", "found", "i", "j", "k"] ["n"] (bh fT) := ⟨rfl, rfl, rfl, by decide +kernel, rfl, by decide +kernel, by decide +kernel⟩
theorem sc_lright : bO ["_law_n", "_law_pairs_here", "_law_found", "_law_steps", "_law_there", "_law_pair_here", "_law_rows", "_law_one", "_law_other", "_law_more"] ["_law_n", "_law_pairs_here", "_law_found", "_law_steps"] (bh iS) := ⟨rfl, rfl, rfl, by decide +kernel, rfl, by decide +kernel, by decide +kernel⟩
theorem sc_lbent : bO ["_law_n", "_law_pairs_here", "_law_pile_here", "_law_found", "_law_steps", "_law_every", "_law_way", "_law_drawn_here"] ["_law_n", "_law_pairs_here", "_law_pile_here"] (bh jR) := ⟨rfl, rfl, rfl, by decide +kernel, rfl, by decide +kernel, by decide +kernel⟩
theorem sc_brought_pairs : bO ["n", "pairs", "silent", "steps", "many", "one", "other", "more"] ["n", "pairs"] (bh dX) := ⟨rfl, rfl, rfl, by decide +kernel, rfl, by decide +kernel, by decide +kernel⟩
theorem sc_steps_hold : bO ["n", "pairs", "found", "steps", "allowed", "silent", "one", "other", "more"] ["n", "pairs", "found", "steps"] (bh fC) := ⟨rfl, rfl, rfl, by decide +kernel, rfl, by decide +kernel, by decide +kernel⟩
theorem sc_law : bO ["_law_script", "_law_turn", "_law_n", "_law_pairs_here", "_law_time", "_law_pile_here", "_law_some", "_law_found", "_law_steps", "_law_handed", "_law_told"] ["_law_script"] (bh nv) := ⟨rfl, rfl, rfl, by decide +kernel, rfl, by decide +kernel, by decide +kernel⟩
noncomputable def ml : DS := (bY (dS (aU wU (aU gz (pC (.int 1)) (pV 0)) (pC (.int 1)))))
noncomputable def gf : GF := d9 1 [] ml
noncomputable def pJ : DS := (bY (bX (ag (dS (cE lH [(pV 0), (pV 1)])) (ag (dS (cE lI [(pV 0), (pV 1)])) (ag (dS (pV 2)) aW)))))
noncomputable def fE : GF := d9 3 [] pJ
noncomputable def pL : DS := (bY (oU (iC sQ (bX (ag (bA 1) (ag (bA 2) (ag (bA 3) aW)))) (pV 0)) (iC sQ (bX (ag (bA 2) (ag (bA 1) (ag (bA 3) aW)))) (pV 0))))
noncomputable def jx : GF := d9 4 [] pL
noncomputable def rC : DS := (aH (bC 2 (dS (aU oP (aU ef (aU ef (aU i7 (aU oP (pV 0) (pC (.int 2147483647))) (pC (.int 48271))) (aU i7 (pV 1) (pC (.int 69621)))) (pC (.int 11))) (pC (.int 2147483647)))))
   (aH (bC 2 (dS (aU oP (aU i7 (pV 2) (pV 2)) (pC (.int 2147483629)))))
   (bY (dS (aU oP (aU i7 (pV 2) (pV 2)) (pC (.int 2147483587)))))))
noncomputable def kw : GF := d9 3 [2, 2] rC
noncomputable def tf : DS := (aH (bC 2 (dS (pC (.int 0))))
   (aH (dI (ba (df qY (dS (pV 1)) (dS (cE iA [(pV 0)])))) (bC 2 (dS (aU ff (pV 0) (pV 1)))) cK)
   (bY (dv (ag (dS (aU i7 (pV 2) (cE qU [(aU CT (cE rV [(pV 2)]) (aU AG (pC (.int 10)) (pC (.int 18))))]))) (ag (dS (pV 2)) (ag (dS (aU i7 (pC (.int 97)) (pV 1))) aW)))))))
noncomputable def iN : GF := d9 3 [2, 2] tf
noncomputable def tj : DS := (bY (bX (ag (dS (cE lH [(pV 0), (pV 1)])) (ag (dS (cE lI [(pV 0), (pV 1)])) (ag (dS (pV 2)) aW)))))
noncomputable def dL : GF := d9 3 [] tj
noncomputable def rp : DS := (aH (bC 1 (dv aW))
   (aH (cU (im (ag (dS (pV 0)) aW)) (cm 2) (cU (qW (ag (dS (aU ef (pV 2) (pC (.int 1)))) (ag (dS (pV 0)) aW))) (cm 3) (bC 1 (gS (gi 1) (gZ 1 (im (ag (dS (aU gz (pC (.int 1)) (pV 0))) aW)) (cm 4) (dW (ba (df eG (dS (aU q9 (aU wV (pV 4) (pV 2)) (pC (.int 1)))) (dS (pC (.int 0))))) (ba (df eG (dS (aU q9 (aU wV (pV 4) (pV 3)) (pC (.int 1)))) (dS (pC (.int 0)))))) (bX (ag (dS (pV 2)) (ag (dS (pV 3)) (ag (dS (pV 4)) aW)))))))))
   (bY (gi 1))))
noncomputable def hZ : GF := d9 4 [1, 2, 3, 1] rp
noncomputable def ip : DS := (aH (bC 3 (dS (aU vH (aU gz (pC (.int 1)) (pV 1)) (aU gz (pC (.int 1)) (pV 2)))))
   (bY (gZ 1 (im (ag (df ef (bf gf [.bo 0]) (dS (pC (.int 1)))) aW)) (cm 4) (ba (df eG (dS (aU q9 (pV 4) (pV 3))) (dS (pC (.int 0))))) (bX (ag (dS (pC (.str "pair"))) (ag (dS (pV 1)) (ag (dS (pV 2)) (ag (dS (pV 4)) aW))))))))
noncomputable def d8 : GF := d9 4 [3] ip
noncomputable def nS : DS := (aH (bC 4 (bf fE [.bo 0, .bo 2, .bo 3]))
   (aH (bC 5 (bf fE [.bo 0, .bo 1, .ex (dS (aU vH (pV 3) (aU gz (pC (.int 1)) (pV 2))))]))
   (bY (dv (ag (bX (ag (bA 4) (ag (bA 5) (ag (bf fE [.bo 0, .bo 1, .bo 3]) aW)))) (ag (bX (ag (bA 4) (ag (bA 5) (ag (bf fE [.bo 0, .bo 2, .ex (dS (aU vH (pV 3) (aU gz (pC (.int 1)) (pV 1))))]) aW)))) aW))))))
noncomputable def iL : GF := d9 6 [4, 5] nS
noncomputable def sZ : DS := (aH (dI (ba (dS (aU sQ (aU ff (pV 0) (pC (.int 0))) (iz [(pC (.int 0)), (gx (pC (.int 1)))])))) (aH (gG (dS (aU ef (aU ff (pV 0) (pC (.int 2))) (pC (.int 1)))) (lm 0 [] (pC (.int 2))))
   (bY (df oP (bf kw [.ex (dS (aU ff (pV 0) (pC (.int 1)))), .ex (dS (aU ff (pV 0) (pC (.int 2))))]) (dS (pV 1))))) cK)
   (aH (bC 2 (dS (aU oP (aU ff (pV 0) (pC (.int 0))) (pV 1))))
   (aH (gG (dS (aU wX (aU ff (pV 0) (pC (.int 0))) (pV 1))) (lm 0 [] (pC (.int 0))))
   (bY (dS (pV 2))))))
noncomputable def dz : GF := d9 3 [2] sZ
noncomputable def rF : DS := (aH (bC 1 (dv aW))
   (aH (cU (fv (bf hZ [.bo 0])) (er 3 (bJ (cm 2) (bJ (cm 3) (bJ (cm 4) eR)))) (cU (im (ag (dS (pV 0)) aW)) (cm 5) (dI (dW (ba (dS (aU oO (pV 5) (iz [(pV 2), (pV 3)])))) (ba (df eG (dS (aU q9 (aU wV (pV 4) (pV 5)) (pC (.int 1)))) (dS (pC (.int 0)))))) (aH (fx (gT 1 (bX (ag (bf dL [.bo 2, .bo 5, .bo 4]) (ag (bf dL [.bo 2, .bo 3, .ex (dS (aU ef (pV 4) (aU gz (pC (.int 1)) (pV 5))))]) (ag (bX (ag (dS (pV 2)) (ag (dS (pV 3)) (ag (dS (pV 4)) aW)))) aW))))))
   (aH (fx (gT 1 (bX (ag (bf dL [.bo 2, .bo 5, .bo 4]) (ag (bf dL [.bo 2, .bo 3, .ex (dS (aU ef (pV 4) (aU gz (pC (.int 1)) (pV 5))))]) (ag (bf dL [.bo 2, .bo 5, .ex (dS (aU ef (pV 4) (aU gz (pC (.int 1)) (pV 3))))]) aW))))))
   (aH (fx (gT 1 (bX (ag (bf dL [.bo 3, .bo 5, .bo 4]) (ag (bf dL [.bo 2, .bo 3, .ex (dS (aU ef (pV 4) (aU gz (pC (.int 1)) (pV 5))))]) (ag (bX (ag (dS (pV 2)) (ag (dS (pV 3)) (ag (dS (pV 4)) aW)))) aW))))))
   (fx (gT 1 (bX (ag (bf dL [.bo 3, .bo 5, .bo 4]) (ag (bf dL [.bo 2, .bo 3, .ex (dS (aU ef (pV 4) (aU gz (pC (.int 1)) (pV 5))))]) (ag (bf dL [.bo 3, .bo 5, .ex (dS (aU ef (pV 4) (aU gz (pC (.int 1)) (pV 2))))]) aW))))))))) cK)))
   (bY (gi 1))))
noncomputable def gy : GF := d9 6 [1, 2, 3, 4, 5] rF
noncomputable def sY : DS := (aH (bC 1 (gZ 1 (im (ag (dS (pV 0)) aW)) (cm 4) lz (bX (ag (dS (pC (.str "last"))) (ag (dS (pV 4)) aW)))))
   (aH (cU (im (ag (dS (pV 0)) aW)) (cm 2) (cU (qW (ag (dS (aU ef (pV 2) (pC (.int 1)))) (ag (dS (pV 0)) aW))) (cm 3) (fx (ky 1 (bf d8 [.bo 0, .bo 2, .bo 3])))))
   (bY (gi 1))))
noncomputable def lO : GF := d9 4 [1, 2, 3] sY
noncomputable def ja : DS := (aH (bC 4 (dS (aU vH (aU vH (aU gz (pC (.int 1)) (pV 1)) (aU gz (pC (.int 1)) (pV 2))) (aU gz (pC (.int 1)) (pV 3)))))
   (aH (bC 5 (dv aW))
   (aH (cU (im (ag (df ef (bf gf [.bo 0]) (dS (pC (.int 1)))) aW)) (cm 6) (dI (ba (df eG (dS (aU q9 (pV 6) (pV 4))) (dS (pC (.int 0))))) (fx (ky 5 (bf iL [.bo 1, .bo 2, .bo 3, .bo 6]))) cK))
   (bY (gi 5)))))
noncomputable def eQ : GF := d9 7 [4, 5, 6] ja
noncomputable def pI : aZ -> Nat := fun _ => 100
noncomputable def pK : DS := (aH (bC 2 nP)
   (aH (cU (fv (bA 1)) (cm 3) (gp 2 (pV 3)))
   (aH (bC 4 (bf gy [.bo 0]))
   (aH (bC 5 (dS (gx (pC (.int 1)))))
   (aH (sC pI (ba (df qY (dS (pV 5)) (dS (cE gq [(pV 2)])))) (aH (bC 5 (dS (cE gq [(pV 2)])))
   (cU (fv (bA 4)) (er 3 (bJ (cm 6) (bJ (cm 7) (bJ (cm 8) eR)))) (dI (dW (ba (dS (aU gQ (pV 6) (pV 2)))) (ba (dS (aU gQ (pV 7) (pV 2))))) (gp 2 (pV 8)) cK))))
   (bY (io (pV 2))))))))
noncomputable def jv : GF := d9 9 [2, 3, 4, 5, 5, 6, 7, 8] pK
noncomputable def rD : DS := (aH (bC 2 (eE (dv (ag (dS (pC (.int 4))) (ag (dS (pC (.int 3))) (ag (dS (pC (.int 4))) (ag (dS (pC (.int 2))) (ag (dS (pC (.int 4))) (ag (dS (pC (.int 1))) aW))))))) (bf dz [.ex (bf iN [.bo 0, .bo 1]), .ex (dS (pC (.int 6)))])))
   (aH (bC 3 (bf hZ [.bo 2]))
   (aH (bC 4 (bf gy [.bo 2]))
   (aH (bC 5 (dv aW))
   (aH (cU (qW (ag (dS (pC (.int 1))) (ag (dS (pC (.int 7))) aW))) (cm 6) (aH (bC 7 (bf iN [.bo 0, .ex (dS (aU ef (pV 1) (pV 6)))]))
   (aH (bC 8 (bf dz [.bo 7, .ex (dS (pC (.int 4)))]))
   (dI (dW (ba (df eG (dS (pV 8)) (dS (pC (.int 0))))) (ba (dS (aU jy (pV 4) (iz []))))) (bC 5 (gS (gi 5) (j9 (lR (eE (bA 4) (bf dz [.bo 7, .ex (dS (cE iA [(pV 4)]))])) none (some (pC (.int 2))))))) (dI (dW (ba (df qY (dS (pV 8)) (dS (pC (.int 3))))) (ba (dS (aU jy (pV 3) (iz []))))) (fx (gT 5 (eE (bA 3) (bf dz [.bo 7, .ex (dS (cE iA [(pV 3)]))])))) cK)))))
   (bY (bX (ag (dS (pV 2)) (ag (gi 5) aW)))))))))
noncomputable def kx : GF := d9 9 [2, 3, 4, 5, 6, 7, 8, 5] rD
noncomputable def sS : aZ -> Nat := fun _ => 100
noncomputable def tm : DS := (aH (bC 2 nP)
   (aH (cU (fv (bA 1)) (cm 3) (gp 2 (pV 3)))
   (aH (bC 4 (dv aW))
   (aH (bC 5 (bf gy [.bo 0]))
   (aH (bC 6 (dS (gx (pC (.int 1)))))
   (aH (sC sS (ba (df qY (dS (pV 6)) (dS (cE gq [(pV 2)])))) (aH (bC 6 (dS (cE gq [(pV 2)])))
   (cU (fv (bA 5)) (er 3 (bJ (cm 7) (bJ (cm 8) (bJ (cm 9) eR)))) (dI (dW (ba (dS (aU gQ (pV 7) (pV 2)))) (dW (ba (dS (aU gQ (pV 8) (pV 2)))) (ba (dS (aU gP (pV 9) (pV 2)))))) (aH (gp 2 (pV 9))
   (fx (gT 4 (bX (ag (bA 7) (ag (bA 8) (ag (bA 9) aW))))))) cK))))
   (bY (bX (ag (io (pV 2)) (ag (gi 4) aW))))))))))
noncomputable def lP : GF := d9 10 [2, 3, 4, 5, 6, 6, 7, 8, 9] tm
noncomputable def kF : DS := (aH (bC 3 (bf dz [.bo 1, .ex (dS (pC (.int 4)))]))
   (aH (bC 4 (bf dz [.bo 1, .ex (dS (aU ef (cE iA [(pV 0)]) (pC (.int 1))))]))
   (aH (dI (ba (df eG (dS (pV 3)) (dS (pC (.int 0))))) (bY (gS (fG (pV 0) none (some (pV 4))) (fG (pV 0) (some (aU ef (pV 4) (pC (.int 1)))) none))) cK)
   (aH (dI (ba (df eG (dS (pV 3)) (dS (pC (.int 1))))) (bY (j8 (kz (bA 0) (dv (ag (bA 2) aW))))) cK)
   (aH (dI (ba (df eG (dS (pV 3)) (dS (pC (.int 2))))) (bY (gS (gS (fG (pV 0) none (some (pV 4))) (fG (pV 0) (some (pV 4)) (some (aU ef (pV 4) (pC (.int 1)))))) (fG (pV 0) (some (pV 4)) none))) cK)
   (bY (iO (pV 0) (gx (pC (.int 1))))))))))
noncomputable def gv : GF := d9 5 [3, 4] kF
noncomputable def kE : DS := (aH (bC 3 (bf dz [.bo 1, .ex (dS (pC (.int 10)))]))
   (aH (bC 4 (bf dz [.bo 1, .ex (dS (cE iA [(pV 0)]))]))
   (aH (gG (eE (bA 0) (dS (pV 4))) (er 3 (bJ (cm 5) (bJ (cm 6) (bJ (cm 7) eR)))))
   (aH (bC 8 (dv (ag (dv aW) (ag (dv (ag (eE (bA 0) (dS (pV 4))) (ag (eE (bA 0) (dS (pV 4))) aW))) (ag (dv (ag (bX (ag (bA 6) (ag (bA 5) (ag (bA 7) aW)))) aW)) (ag (dv (ag (bX (ag (eE (bA 2) (dS (pC (.int 0)))) (ag (bA 6) (ag (bA 7) aW)))) aW)) (ag (dv (ag (bX (ag (bA 5) (ag (eE (bA 2) (dS (pC (.int 0)))) (ag (bA 7) aW)))) aW)) aW)))))))
   (aH (bC 8 (gS (gi 8) (dv (ag (dv (ag (bX (ag (bA 5) (ag (bA 6) (ag (eE (bA 2) (dS (pC (.int 0)))) aW)))) aW)) (ag (dv (ag (eE (bA 0) (dS (pV 4))) (ag (bX (ag (eE (bA 2) (dS (pC (.int 0)))) (ag (eE (bA 2) (dS (pC (.int 1)))) (ag (eE (bA 2) (dS (pC (.int 2)))) aW)))) aW))) aW)))))
   (aH (dI (ba (df qY (dS (pV 3)) (dS (pC (.int 7))))) (bY (gS (kz (fG (pV 0) none (some (pV 4))) (eE (bA 8) (dS (pV 3)))) (fG (pV 0) (some (aU ef (pV 4) (pC (.int 1)))) none))) cK)
   (aH (dI (ba (df eG (dS (pV 3)) (dS (pC (.int 7))))) (bY (iO (pV 0) (gx (pC (.int 1))))) cK)
   (aH (dI (ba (df eG (dS (pV 3)) (dS (pC (.int 8))))) (bY (gS (fG (pV 0) (some (pC (.int 1))) none) (fG (pV 0) none (some (pC (.int 1)))))) cK)
   (bY (gS (gS (fG (pV 0) none (some (pV 4))) (dv (ag (bX (ag (bA 5) (ag (bA 6) (ag (bA 5) aW)))) aW))) (fG (pV 0) (some (pV 4)) none)))))))))))
noncomputable def gu : GF := d9 9 [3, 4, 5, 6, 7, 8, 8] kE
noncomputable def mj : DS := (bY (gZ 1 (fv (bf lO [.bo 0])) (cm 1) (ba (df eG (dS (aU ff (pV 1) (pC (.int 0)))) (dS (pC (.str "pair"))))) (bX (ag (dS (aU ff (pV 1) (pC (.int 1)))) (ag (dS (aU ff (pV 1) (pC (.int 2)))) (ag (dS (aU ff (pV 1) (pC (.int 3)))) aW))))))
noncomputable def ia : GF := d9 1 [] mj
noncomputable def mi : DS := (aH (bC 1 (dv aW))
   (aH (cU (im (ag (dS (pV 0)) aW)) (cm 2) (cU (im (ag (dS (pV 0)) aW)) (cm 3) (cU (im (ag (dS (pV 0)) aW)) (cm 4) (dI (dW (ba (df jy (dS (pV 2)) (dS (pV 3)))) (dW (ba (df jy (dS (pV 2)) (dS (pV 4)))) (ba (df jy (dS (pV 3)) (dS (pV 4)))))) (fx (ky 1 (bf eQ [.bo 0, .bo 2, .bo 3, .bo 4]))) cK))))
   (bY (gi 1))))
noncomputable def gc : GF := d9 5 [1, 2, 3, 4] mi
noncomputable def rn : DS := (aH (bC 4 nP)
   (aH (cU (fv (bA 1)) (cm 5) (gp 4 (pV 5)))
   (aH (bC 6 (bf gy [.bo 0]))
   (aH (cU (fv (bA 3)) (er 3 (bJ (cm 7) (bJ (cm 8) (bJ (cm 9) eR)))) (aH (dI (g8 (ba (dS (aU gP (pV 7) (pV 4)))) (g8 (ba (dS (aU gP (pV 8) (pV 4)))) (ba (dS (aU gQ (pV 9) (pV 4)))))) (bY (dS (pC (.bl false)))) cK)
   (aH (dI (dW (ba (iC oO (bX (ag (bA 7) (ag (bA 8) (ag (bA 9) aW)))) (pV 6))) (ba (iC oO (bX (ag (bA 8) (ag (bA 7) (ag (bA 9) aW)))) (pV 6)))) (bY (dS (pC (.bl false)))) cK)
   (gp 4 (pV 9)))))
   (bY (lS (iC eG (io (pV 4)) (pV 2)) (jI eG 2 (bf jv [.bo 0, .bo 1]))))))))
noncomputable def ku : GF := d9 10 [4, 5, 6, 7, 8, 9] rn
noncomputable def tp : DS := (aH (gG (bf lP [.bo 0, .bo 1]) (er 2 (bJ (cm 3) (bJ (cm 4) eR))))
   (aH (bC 5 (bf hZ [.bo 0]))
   (aH (bC 6 (bf dz [.bo 2, .ex (dS (pC (.int 8)))]))
   (aH (dI (g8 (ba (dS (aU eG (pV 5) (iz [])))) (ba (df eG (dS (pV 6)) (dS (pC (.int 0)))))) (bY (bX (ag (bA 1) (ag (gi 3) (ag (gi 4) aW))))) cK)
   (aH (bC 7 (gZ 1 (im (ag (dS (pC (.int 3))) aW)) (cm 8) lz (eE (bA 5) (bf dz [.bo 2, .ex (dS (cE iA [(pV 5)]))]))))
   (aH (dI (g8 (ba (df qY (dS (pV 6)) (dS (pC (.int 3))))) (ba (dS (aU eG (pV 4) (iz []))))) (bY (bX (ag (bA 1) (ag (bf gv [.bo 3, .bo 2, .ex (eE (bA 7) (dS (pC (.int 0))))]) (ag (gi 4) aW))))) cK)
   (aH (dI (ba (df eG (dS (pV 6)) (dS (pC (.int 3))))) (bY (bX (ag (fG (pV 1) none (some (gx (pC (.int 1))))) (ag (gi 3) (ag (gi 4) aW))))) cK)
   (aH (dI (ba (df eG (dS (pV 6)) (dS (pC (.int 4))))) (bY (bX (ag (kz (bA 1) (dv (ag (eE (eE (bA 4) (bf dz [.bo 2, .ex (dS (cE iA [(pV 4)]))])) (dS (pC (.int 2)))) aW))) (ag (gi 3) (ag (bA 4) aW))))) cK)
   (aH (dI (ba (df eG (dS (pV 6)) (dS (pC (.int 5))))) (bY (bX (ag (bA 1) (ag (gZ 1 (fv (bA 3)) (cm 8) (ba (dS (aU jy (pV 8) (aU ff (aU ff (pV 4) (gx (pC (.int 1)))) (pC (.int 2)))))) (bA 8)) (ag (fG (pV 4) none (some (gx (pC (.int 1))))) aW))))) cK)
   (bY (bX (ag (bA 1) (ag (gi 3) (ag (bf gu [.bo 4, .bo 2, .bo 7]) aW))))))))))))))
noncomputable def lQ : GF := d9 8 [3, 4, 5, 6, 7] tp
noncomputable def jz : aZ -> Nat := fun _ => 100
noncomputable def jB : DS := (aH (bC 2 (i9 (gZ 1 (fv (bA 1)) (cm 8) lz (bX (ag (bA 8) (ag (dS (pC (.bl true))) aW))))))
   (aH (bC 3 (dv aW))
   (aH (bC 4 (dS (gx (pC (.int 1)))))
   (aH (sC jz (ba (df qY (dS (pV 4)) (dS (cE gq [(pV 2)])))) (aH (bC 4 (dS (cE gq [(pV 2)])))
   (cU (fv (bf gc [.bo 0])) (er 3 (bJ (cm 5) (bJ (cm 6) (bJ (cm 7) eR)))) (dI (dW (ba (dS (aU gQ (pV 5) (pV 2)))) (dW (ba (dS (aU gQ (pV 6) (pV 2)))) (ba (dS (aU gP (pV 7) (pV 2)))))) (aH (gp 2 (pV 7))
   (fx (gT 3 (bX (ag (bA 5) (ag (bA 6) (ag (bA 7) aW))))))) cK))))
   (bY (bX (ag (gZ 1 (fv (bf ia [.bo 0])) (cm 8) (ba (dS (aU gQ (pV 8) (pV 2)))) (bA 8)) (ag (gi 3) aW))))))))
noncomputable def fy : GF := d9 8 [2, 3, 4, 4, 5, 6, 7] jB
noncomputable def ln : DS := (aH (dI (ba (jI jy 2 (eE (bf fy [.bo 0, .bo 1]) (dS (pC (.int 0)))))) (bY (dS (pC (.bl false)))) cK)
   (aH (bC 4 (bf gc [.bo 0]))
   (aH (bC 5 (i9 (gZ 1 (fv (bA 1)) (cm 9) lz (bX (ag (bA 9) (ag (dS (pC (.bl true))) aW))))))
   (aH (cU (fv (bA 3)) (er 3 (bJ (cm 6) (bJ (cm 7) (bJ (cm 8) eR)))) (aH (dI (g8 (ba (dS (aU gP (pV 6) (pV 5)))) (g8 (ba (dS (aU gP (pV 7) (pV 5)))) (g8 (ba (dS (aU gQ (pV 8) (pV 5)))) (lA (ba (bf jx [.bo 4, .bo 6, .bo 7, .bo 8])))))) (bY (dS (pC (.bl false)))) cK)
   (gp 5 (pV 8))))
   (bY (dS (aU eG (cE gq [(pV 5)]) (cE iA [(pV 2)]))))))))
noncomputable def gO : GF := d9 9 [4, 5, 6, 7, 8] ln
noncomputable def xN : DS := (aH (cU (im (ag (dS (pC (.int 8))) aW)) (cm 1) (aH (gG (bf kx [.bo 0, .ex (dS (aU i7 (pC (.int 7)) (pV 1)))]) (er 2 (bJ (cm 2) (bJ (cm 3) eR))))
   (cU (im (ag (dS (pC (.int 3))) aW)) (cm 4) (aH (bC 5 (bf iN [.bo 0, .ex (dS (aU ef (aU ef (aU i7 (pC (.int 7)) (pV 1)) (pC (.int 1))) (aU i7 (pC (.int 2)) (pV 4))))]))
   (aH (gG (dS (aU wX (aU ff (pV 5) (pC (.int 0))) (aU AG (pC (.int 10)) (pC (.int 6))))) (lm 5 [] (pC (.int 0))))
   (aH (gG (dS (aU ef (aU ff (pV 5) (pC (.int 2))) (pC (.int 50)))) (lm 5 [] (pC (.int 2))))
   (aH (gG (bf lQ [.bo 2, .bo 3, .bo 5]) (er 3 (bJ (cm 6) (bJ (cm 7) (bJ (cm 8) eR)))))
   (aH (bC 9 (bX (ag (i8 (pV 6)) (ag (i8 (pV 7)) (ag (i8 (pV 8)) aW)))))
   (aH (bC 10 (bf gO [.bo 2, .ex (eE (bA 9) (dS (pC (.int 0)))), .ex (eE (bA 9) (dS (pC (.int 1)))), .ex (eE (bA 9) (dS (pC (.int 2))))]))
   (aH (dI (g8 (lA (ba (dS (cE oJ [(pV 10), (pC (.ty "bool"))])))) (ba (df jy (dS (pV 10)) (bf ku [.bo 2, .bo 6, .bo 7, .bo 8])))) tW cK)
   (dI (ba (jI jy 9 (bX (ag (bA 6) (ag (bA 7) (ag (bA 8) aW)))))) tW cK)))))))))))
   (bY (dS (pC (.bl true)))))
noncomputable def jw : GF := d9 11 [1, 2, 3, 4, 5, 6, 7, 8, 9, 10] xN
set_option genInjectivity false
set_option genSizeOfSpec false
set_option genSizeOf false
structure AS (K : PySem.W.Frag) (mg : Str -> Option Value) where
 a_all_names : Addr
 d_all_names : FuncData
 a_pair_of : Addr
 d_pair_of : FuncData
 a_is_step : Addr
 d_is_step : FuncData
 a_lmixed : Addr
 d_lmixed : FuncData
 a_lpile : Addr
 d_lpile : FuncData
 a_lpair : Addr
 d_lpair : FuncData
 a_lpairs : Addr
 d_lpairs : FuncData
 a_pairs_with_known : Addr
 d_pairs_with_known : FuncData
 a_steps_of : Addr
 d_steps_of : FuncData
 a_ltake : Addr
 d_ltake : FuncData
 a_lbring : Addr
 d_lbring : FuncData
 a_rules : Addr
 d_rules : FuncData
 a_steps_of_names : Addr
 d_steps_of_names : FuncData
 a_lclosed : Addr
 d_lclosed : FuncData
 a_ldrawn : Addr
 d_ldrawn : FuncData
 a_lmade : Addr
 d_lmade : FuncData
 a_lbent_found : Addr
 d_lbent_found : FuncData
 a_lbent_steps : Addr
 d_lbent_steps : FuncData
 a_all_pairs : Addr
 d_all_pairs : FuncData
 a_all_steps : Addr
 d_all_steps : FuncData
 a_lright : Addr
 d_lright : FuncData
 a_lbent : Addr
 d_lbent : FuncData
 a_brought_pairs : Addr
 d_brought_pairs : FuncData
 a_steps_hold : Addr
 d_steps_hold : FuncData
structure Tx {K : PySem.W.Frag} {mg : Str -> Option Value} (t : AS K mg) : Prop where
 F_all_names : Fun K "all_names" "all_names" fV t.a_all_names t.d_all_names
 m_all_names : mg "all_names" = some (.ref t.a_all_names)
 n_all_names : Binds K t.d_all_names ["n"] []
 F_pair_of : Fun K "pair_of" "pair_of" ie t.a_pair_of t.d_pair_of
 m_pair_of : mg "pair_of" = some (.ref t.a_pair_of)
 n_pair_of : Binds K t.d_pair_of ["one", "other", "known"] []
 F_is_step : Fun K "is_step" "is_step" ii t.a_is_step t.d_is_step
 m_is_step : mg "is_step" = some (.ref t.a_is_step)
 n_is_step : Binds K t.d_is_step ["steps", "one", "other", "more"] []
 F_lmixed : Fun K "_law_mixed" "_law_mixed" iU t.a_lmixed t.d_lmixed
 m_lmixed : mg "_law_mixed" = some (.ref t.a_lmixed)
 n_lmixed : Binds K t.d_lmixed ["_law_cell", "_law_k"] []
 F_lpile : Fun K "_law_pile" "_law_pile" jO t.a_lpile t.d_lpile
 m_lpile : mg "_law_pile" = some (.ref t.a_lpile)
 n_lpile : Binds K t.d_lpile ["_law_script", "_law_k"] []
 F_lpair : Fun K "_law_pair" "_law_pair" jP t.a_lpair t.d_lpair
 m_lpair : mg "_law_pair" = some (.ref t.a_lpair)
 n_lpair : Binds K t.d_lpair ["_law_i", "_law_j", "_law_g"] []
 F_lpairs : Fun K "_law_pairs" "_law_pairs" iT t.a_lpairs t.d_lpairs
 m_lpairs : mg "_law_pairs" = some (.ref t.a_lpairs)
 n_lpairs : Binds K t.d_lpairs ["_law_n"] []
 F_pairs_with_known : Fun K "pairs_with_known" "pairs_with_known" dt t.a_pairs_with_known t.d_pairs_with_known
 m_pairs_with_known : mg "pairs_with_known" = some (.ref t.a_pairs_with_known)
 n_pairs_with_known : Binds K t.d_pairs_with_known ["n", "i", "j"] []
 F_steps_of : Fun K "steps_of" "steps_of" gF t.a_steps_of t.d_steps_of
 m_steps_of : mg "steps_of" = some (.ref t.a_steps_of)
 n_steps_of : Binds K t.d_steps_of ["i", "j", "k", "g"] []
 F_ltake : Fun K "_law_take" "_law_take" jN t.a_ltake t.d_ltake
 m_ltake : mg "_law_take" = some (.ref t.a_ltake)
 n_ltake : Binds K t.d_ltake ["_law_pile_here", "_law_many"] []
 F_lbring : Fun K "_law_bring" "_law_bring" iW t.a_lbring t.d_lbring
 m_lbring : mg "_law_bring" = some (.ref t.a_lbring)
 n_lbring : Binds K t.d_lbring ["_law_n"] []
 F_rules : Fun K "rules" "rules" jM t.a_rules t.d_rules
 m_rules : mg "rules" = some (.ref t.a_rules)
 n_rules : Binds K t.d_rules ["n"] []
 F_steps_of_names : Fun K "steps_of_names" "steps_of_names" dO t.a_steps_of_names t.d_steps_of_names
 m_steps_of_names : mg "steps_of_names" = some (.ref t.a_steps_of_names)
 n_steps_of_names : Binds K t.d_steps_of_names ["n", "i", "j", "k"] []
 F_lclosed : Fun K "_law_closed" "_law_closed" ig t.a_lclosed t.d_lclosed
 m_lclosed : mg "_law_closed" = some (.ref t.a_lclosed)
 n_lclosed : Binds K t.d_lclosed ["_law_n", "_law_pairs_here"] []
 F_ldrawn : Fun K "_law_drawn" "_law_drawn" iV t.a_ldrawn t.d_ldrawn
 m_ldrawn : mg "_law_drawn" = some (.ref t.a_ldrawn)
 n_ldrawn : Binds K t.d_ldrawn ["_law_script", "_law_start"] []
 F_lmade : Fun K "_law_made" "_law_made" jQ t.a_lmade t.d_lmade
 m_lmade : mg "_law_made" = some (.ref t.a_lmade)
 n_lmade : Binds K t.d_lmade ["_law_n", "_law_pairs_here"] []
 F_lbent_found : Fun K "_law_bent_found" "_law_bent_found" eZ t.a_lbent_found t.d_lbent_found
 m_lbent_found : mg "_law_bent_found" = some (.ref t.a_lbent_found)
 n_lbent_found : Binds K t.d_lbent_found ["_law_found", "_law_pile_here", "_law_pair_here"] []
 F_lbent_steps : Fun K "_law_bent_steps" "_law_bent_steps" eY t.a_lbent_steps t.d_lbent_steps
 m_lbent_steps : mg "_law_bent_steps" = some (.ref t.a_lbent_steps)
 n_lbent_steps : Binds K t.d_lbent_steps ["_law_steps", "_law_pile_here", "_law_drawn_here"] []
 F_all_pairs : Fun K "all_pairs" "all_pairs" fU t.a_all_pairs t.d_all_pairs
 m_all_pairs : mg "all_pairs" = some (.ref t.a_all_pairs)
 n_all_pairs : Binds K t.d_all_pairs ["n"] []
 F_all_steps : Fun K "all_steps" "all_steps" fT t.a_all_steps t.d_all_steps
 m_all_steps : mg "all_steps" = some (.ref t.a_all_steps)
 n_all_steps : Binds K t.d_all_steps ["n"] []
 F_lright : Fun K "_law_right" "_law_right" iS t.a_lright t.d_lright
 m_lright : mg "_law_right" = some (.ref t.a_lright)
 n_lright : Binds K t.d_lright ["_law_n", "_law_pairs_here", "_law_found", "_law_steps"] []
 F_lbent : Fun K "_law_bent" "_law_bent" jR t.a_lbent t.d_lbent
 m_lbent : mg "_law_bent" = some (.ref t.a_lbent)
 n_lbent : Binds K t.d_lbent ["_law_n", "_law_pairs_here", "_law_pile_here"] []
 F_brought_pairs : Fun K "brought_pairs" "brought_pairs" dX t.a_brought_pairs t.d_brought_pairs
 m_brought_pairs : mg "brought_pairs" = some (.ref t.a_brought_pairs)
 n_brought_pairs : Binds K t.d_brought_pairs ["n", "pairs"] []
 F_steps_hold : Fun K "steps_hold" "steps_hold" fC t.a_steps_hold t.d_steps_hold
 m_steps_hold : mg "steps_hold" = some (.ref t.a_steps_hold)
 n_steps_hold : Binds K t.d_steps_hold ["n", "pairs", "found", "steps"] []
 b_abs : mg "abs" = none
 b_bool : mg "bool" = none
 b_dict : mg "dict" = none
 b_int : mg "int" = none
 b_isinstance : mg "isinstance" = none
 b_len : mg "len" = none
 b_list : mg "list" = none
 b_max : mg "max" = none
 b_min : mg "min" = none
 b_range : mg "range" = none
 b_sorted : mg "sorted" = none
section
variable {P : Program} {w : World} {K : PySem.W.Frag} {mg : Str -> Option Value} {base : Heap} {t : AS K mg}
theorem la (T : Tx t) : cL P w K mg base dD 1 t.a_all_names t.d_all_names ["n"] (dH K 1 gf) := by
 refine dF (N := ["n"]) (W := []) T.F_all_names qh dC fun cdv A outer s H E hr => ?_
 have hu := hr.units;exact (av (bx (ak (aY Bx (aY eO aj (ae 0)) aj))))
theorem t9 (T : Tx t) : cL P w K mg base dD 1 t.a_pair_of t.d_pair_of ["one", "other", "known"] (dH K 3 fE) := by
 refine dF (N := ["one", "other", "known"]) (W := []) T.F_pair_of tU dC fun cdv A outer s H E hr => ?_
 have hu := hr.units;exact (av (bx (bB (ad (ak (dh (id := "min") (vU (by rfl)) (by rfl) T.b_min (by decide +kernel) (bt (ae 0) (bt (ae 1) bR)))) (ad (ak (dh (id := "max") (vV (by rfl)) (by rfl) T.b_max (by decide +kernel) (bt (ae 0) (bt (ae 1) bR)))) (ad (ak (ae 2)) aB))))))
theorem ub (T : Tx t) : cL P w K mg base dD 1 t.a_is_step t.d_is_step ["steps", "one", "other", "more"] (dH K 4 jx) := by
 refine dF (N := ["steps", "one", "other", "more"]) (W := []) T.F_is_step tV dC fun cdv A outer s H E hr => ?_
 have hu := hr.units;exact (av (bx (Bi (oo (wA hu) (bB (ad (aL 1) (ad (aL 2) (ad (aL 3) aB)))) (ae 0) (by rfl)) (uU (oo (wA hu) (bB (ad (aL 2) (ad (aL 1) (ad (aL 3) aB)))) (ae 0) (by rfl))))))
theorem vf (T : Tx t) : cL P w K mg base dD 1 t.a_lmixed t.d_lmixed ["_law_cell", "_law_k"] (dH K 2 kw) := by
 refine dF (N := ["_law_cell", "_law_k", "_law_number"]) (W := [2, 2]) T.F_lmixed sc_lmixed dC fun cdv A outer s H E hr => ?_
 have hu := hr.units;exact (ai (bg 2 sc_lmixed.nd (ak (aY lG (aY dj (aY dj (aY iG (aY lG (ae 0) aj) aj) (aY iG (ae 1) aj)) aj) aj)))
   (ai (bg 2 sc_lmixed.nd (ak (aY lG (aY iG (ae 2) (ae 2)) aj)))
   (av (bx (ak (aY lG (aY iG (ae 2) (ae 2)) aj))))))
theorem qB (T : Tx t) : cL P w K mg base dD 1 t.a_lpile t.d_lpile ["_law_script", "_law_k"] (dH K 2 iN) := by
 refine dF (N := ["_law_script", "_law_k", "_law_cell"]) (W := [2, 2]) T.F_lpile sc_lpile dC fun cdv A outer s H E hr => ?_
 have hu := hr.units;exact (ai (bg 2 sc_lpile.nd (ak aj))
   (ai (cM (cu mQ (ak (ae 1)) (ak (dh (id := "len") jA (by rfl) T.b_len (by decide +kernel) (bt (ae 0) bR))) (bD _)) (av (bg 2 sc_lpile.nd (ak (eN (ae 0) (ae 1))))) bV)
   (av (bx (cO (ad (ak (aY iG (ae 2) (Bk (T := "int") BM (by rfl) T.b_int (by decide +kernel) (bt (uX Cn (dh (id := "abs") BN (by rfl) T.b_abs (by decide +kernel) (bt (ae 2) bR)) (aY xA aj aj) (bD _)) bR)))) (ad (ak (ae 2)) (ad (ak (aY iG aj (ae 1))) aB))))))))
theorem wx (T : Tx t) : cL P w K mg base dD 1 t.a_lpair t.d_lpair ["_law_i", "_law_j", "_law_g"] (dH K 3 dL) := by
 refine dF (N := ["_law_i", "_law_j", "_law_g"]) (W := []) T.F_lpair we dC fun cdv A outer s H E hr => ?_
 have hu := hr.units;exact (av (bx (bB (ad (ak (dh (id := "min") (vU (by rfl)) (by rfl) T.b_min (by decide +kernel) (bt (ae 0) (bt (ae 1) bR)))) (ad (ak (dh (id := "max") (vV (by rfl)) (by rfl) T.b_max (by decide +kernel) (bt (ae 0) (bt (ae 1) bR)))) (ad (ak (ae 2)) aB))))))
theorem kY (T : Tx t) : cL P w K mg base dD 1 t.a_lpairs t.d_lpairs ["_law_n"] (dH K 1 hZ) := by
 refine dF (N := ["_law_n", "_law_found", "_law_i", "_law_j"]) (W := [1, 2, 3, 1]) T.F_lpairs sc_lpairs dC fun cdv A outer s H E hr => ?_
 have hu := hr.units;exact (ai (bg 1 sc_lpairs.nd (cO aB))
   (ai (cF (by rfl) (fJ (by rfl) T.b_range (ad (ak (ae 0)) aB)) (aS 2 sc_lpairs.nd) (av (cF (by rfl) (t3 (by rfl) T.b_range (ad (ak (aY dj (ae 2) aj)) (ad (ak (ae 0)) aB))) (aS 3 sc_lpairs.nd) (av (bg 1 sc_lpairs.nd (fX (dP 1) (mS ["_law_n", "_law_found", "_law_i", "_law_j", "_law_g"] (fJ (by rfl) T.b_range (ad (ak (aY eO aj (ae 0))) aB)) (fun _ _ _ _ _ => by exact (aS 4 (show List.Nodup (["_law_n", "_law_found", "_law_i", "_law_j", "_law_g"] : List Str) by decide +kernel))) (fun _ _ _ _ _ => by exact (jS (gH (e7 (cu (ee hu) (ak (aY nA (aY uc (ae 4) (ae 2)) aj)) (ak aj) (bD _)) (fI (cu (ee hu) (ak (aY nA (aY uc (ae 4) (ae 3)) aj)) (ak aj) (bD _))))))) (fun _ _ _ _ _ => by exact (bB (ad (ak (ae 2)) (ad (ak (ae 3)) (ad (ak (ae 4)) aB))))))))) PassesOwn.never)) PassesOwn.never)
   (av (bx (dP 1)))))
theorem kK (T : Tx t) : cL P w K mg base dD 2 t.a_pairs_with_known t.d_pairs_with_known ["n", "i", "j"] (dH K 3 d8) := by
 have G_all_names := la (P := P) (w := w) (base := base) T;refine dF (N := ["n", "i", "j", "both"]) (W := [3]) T.F_pairs_with_known sc_pairs_with_known dC fun cdv A outer s H E hr => ?_
 have hu := hr.units;exact (ai (bg 3 sc_pairs_with_known.nd (ak (aY qG (aY eO aj (ae 1)) (aY eO aj (ae 2)))))
   (av (bx (mS ["n", "i", "j", "both", "g"] (fJ (by rfl) T.b_range (ad (t4 dj (aN G_all_names (hr.mono dC) (by rfl) T.m_all_names T.F_all_names.kp T.n_all_names (ay 0 aX)) (ak aj)) aB)) (fun _ _ _ _ _ => by exact (aS 4 (show List.Nodup (["n", "i", "j", "both", "g"] : List Str) by decide +kernel))) (fun _ _ _ _ _ => by exact (jS (cu (ee hu) (ak (aY nA (ae 4) (ae 3))) (ak aj) (bD _)))) (fun _ _ _ _ _ => by exact (bB (ad (ak qt) (ad (ak (ae 1)) (ad (ak (ae 2)) (ad (ak (ae 4)) aB))))))))))
theorem sk (T : Tx t) : cL P w K mg base dD 2 t.a_steps_of t.d_steps_of ["i", "j", "k", "g"] (dH K 4 iL) := by
 have G_pair_of := t9 (P := P) (w := w) (base := base) T;refine dF (N := ["i", "j", "k", "g", "one", "other"]) (W := [4, 5]) T.F_steps_of sc_steps_of dC fun cdv A outer s H E hr => ?_
 have hu := hr.units;exact (ai (bg 4 sc_steps_of.nd (aN G_pair_of (hr.mono dC) (by rfl) T.m_pair_of T.F_pair_of.kp T.n_pair_of (ay 0 (ay 2 (ay 3 aX)))))
   (ai (bg 5 sc_steps_of.nd (aN G_pair_of (hr.mono dC) (by rfl) T.m_pair_of T.F_pair_of.kp T.n_pair_of (ay 0 (ay 1 (cJ (ak (aY qG (ae 3) (aY eO aj (ae 2)))) aX)))))
   (av (bx (cO (ad (bB (ad (aL 4) (ad (aL 5) (ad (aN G_pair_of (hr.mono dC) (by rfl) T.m_pair_of T.F_pair_of.kp T.n_pair_of (ay 0 (ay 1 (ay 3 aX)))) aB)))) (ad (bB (ad (aL 4) (ad (aL 5) (ad (aN G_pair_of (hr.mono dC) (by rfl) T.m_pair_of T.F_pair_of.kp T.n_pair_of (ay 0 (ay 2 (cJ (ak (aY qG (ae 3) (aY eO aj (ae 1)))) aX)))) aB)))) aB)))))))
theorem kg (T : Tx t) : cL P w K mg base dD 2 t.a_ltake t.d_ltake ["_law_pile_here", "_law_many"] (dH K 2 dz) := by
 have G_lmixed := vf (P := P) (w := w) (base := base) T;refine dF (N := ["_law_pile_here", "_law_many", "_law_digit"]) (W := [2]) T.F_ltake sc_ltake dC fun cdv A outer s H E hr => ?_
 have hu := hr.units;exact (ai (cM (cA (wA hu) (eN (hs := eA) (ae 0) aj) (jT (bt aj (bt (gJ aj) bR))) (by rfl)) (ai (ij (ak (aY dj (eN (hs := eA) (ae 0) aj) aj)) (nw (t2 0) aj))
   (av (bx (t4 lG (aN G_lmixed (hr.mono dC) (by rfl) T.m_lmixed T.F_lmixed.kp T.n_lmixed (cJ (ak (eN (hs := eA) (ae 0) aj)) (cJ (ak (eN (hs := eA) (ae 0) aj)) aX))) (ak (ae 1)))))) bV)
   (ai (bg 2 sc_ltake.nd (ak (aY lG (eN (hs := eA) (ae 0) aj) (ae 1))))
   (ai (ij (ak (aY xB (eN (hs := eA) (ae 0) aj) (ae 1))) (nw (t2 0) aj))
   (av (bx (ak (ae 2)))))))
theorem jn (T : Tx t) : cL P w K mg base dD 2 t.a_lbring t.d_lbring ["_law_n"] (dH K 1 gy) := by
 have G_lpair := wx (P := P) (w := w) (base := base) T;have G_lpairs := kY (P := P) (w := w) (base := base) T;refine dF (N := ["_law_n", "_law_found", "_law_i", "_law_j", "_law_g", "_law_k"]) (W := [1, 2, 3, 4, 5]) T.F_lbring sc_lbring dC fun cdv A outer s H E hr => ?_
 have hu := hr.units;exact (ai (bg 1 sc_lbring.nd (cO aB))
   (ai (cF (by rfl) (dY (aN G_lpairs (hr.mono dC) (by rfl) T.m_lpairs T.F_lpairs.kp T.n_lpairs (ay 0 aX))) (fW (by rfl) (bI (aS 2 sc_lbring.nd) (bI (aS 3 sc_lbring.nd) (bI (aS 4 sc_lbring.nd) fk)))) (av (cF (by rfl) (fJ (by rfl) T.b_range (ad (ak (ae 0)) aB)) (aS 5 sc_lbring.nd) (av (cM (gH (e7 (cA (ud hu) (ae 5) (jT (bt (ae 2) (bt (ae 3) bR))) (by rfl)) (fI (cu (ee hu) (ak (aY nA (aY uc (ae 4) (ae 5)) aj)) (ak aj) (bD _))))) (ai (fj (g9 1 (bB (ad (aN G_lpair (hr.mono dC) (by rfl) T.m_lpair T.F_lpair.kp T.n_lpair (ay 2 (ay 5 (ay 4 aX)))) (ad (aN G_lpair (hr.mono dC) (by rfl) T.m_lpair T.F_lpair.kp T.n_lpair (ay 2 (ay 3 (cJ (ak (aY dj (ae 4) (aY eO aj (ae 5)))) aX)))) (ad (bB (ad (ak (ae 2)) (ad (ak (ae 3)) (ad (ak (ae 4)) aB)))) aB))))))
   (ai (fj (g9 1 (bB (ad (aN G_lpair (hr.mono dC) (by rfl) T.m_lpair T.F_lpair.kp T.n_lpair (ay 2 (ay 5 (ay 4 aX)))) (ad (aN G_lpair (hr.mono dC) (by rfl) T.m_lpair T.F_lpair.kp T.n_lpair (ay 2 (ay 3 (cJ (ak (aY dj (ae 4) (aY eO aj (ae 5)))) aX)))) (ad (aN G_lpair (hr.mono dC) (by rfl) T.m_lpair T.F_lpair.kp T.n_lpair (ay 2 (ay 5 (cJ (ak (aY dj (ae 4) (aY eO aj (ae 3)))) aX)))) aB))))))
   (ai (fj (g9 1 (bB (ad (aN G_lpair (hr.mono dC) (by rfl) T.m_lpair T.F_lpair.kp T.n_lpair (ay 3 (ay 5 (ay 4 aX)))) (ad (aN G_lpair (hr.mono dC) (by rfl) T.m_lpair T.F_lpair.kp T.n_lpair (ay 2 (ay 3 (cJ (ak (aY dj (ae 4) (aY eO aj (ae 5)))) aX)))) (ad (bB (ad (ak (ae 2)) (ad (ak (ae 3)) (ad (ak (ae 4)) aB)))) aB))))))
   (av (fj (g9 1 (bB (ad (aN G_lpair (hr.mono dC) (by rfl) T.m_lpair T.F_lpair.kp T.n_lpair (ay 3 (ay 5 (ay 4 aX)))) (ad (aN G_lpair (hr.mono dC) (by rfl) T.m_lpair T.F_lpair.kp T.n_lpair (ay 2 (ay 3 (cJ (ak (aY dj (ae 4) (aY eO aj (ae 5)))) aX)))) (ad (aN G_lpair (hr.mono dC) (by rfl) T.m_lpair T.F_lpair.kp T.n_lpair (ay 3 (ay 5 (cJ (ak (aY dj (ae 4) (aY eO aj (ae 2)))) aX)))) aB)))))))))) bV)) PassesOwn.never)) PassesOwn.never)
   (av (bx (dP 1)))))
theorem ww (T : Tx t) : cL P w K mg base dD 3 t.a_rules t.d_rules ["n"] (dH K 1 lO) := by
 have G_pairs_with_known := kK (P := P) (w := w) (base := base) T;refine dF (N := ["n", "found", "i", "j"]) (W := [1, 2, 3]) T.F_rules sc_rules dC fun cdv A outer s H E hr => ?_
 have hu := hr.units;exact (ai (Ap 1 ["n", "found", "i", "j", "k"] sc_rules.nd (fJ (by rfl) T.b_range (ad (ak (ae 0)) aB)) (fun _ _ _ _ _ => by exact (aS 4 (show List.Nodup (["n", "found", "i", "j", "k"] : List Str) by decide +kernel))) (fun _ _ _ _ _ => by exact lD) (fun _ _ _ _ _ => by exact (bB (ad (ak qt) (ad (ak (ae 4)) aB)))))
   (ai (cF (by rfl) (fJ (by rfl) T.b_range (ad (ak (ae 0)) aB)) (aS 2 sc_rules.nd) (av (cF (by rfl) (t3 (by rfl) T.b_range (ad (ak (aY dj (ae 2) aj)) (ad (ak (ae 0)) aB))) (aS 3 sc_rules.nd) (av (fj (oj 1 (aN G_pairs_with_known (hr.mono dC) (by rfl) T.m_pairs_with_known T.F_pairs_with_known.kp T.n_pairs_with_known (ay 0 (ay 2 (ay 3 aX))))))) PassesOwn.never)) PassesOwn.never)
   (av (bx (dP 1)))))
theorem lV (T : Tx t) : cL P w K mg base dD 3 t.a_steps_of_names t.d_steps_of_names ["n", "i", "j", "k"] (dH K 4 eQ) := by
 have G_all_names := la (P := P) (w := w) (base := base) T;have G_steps_of := sk (P := P) (w := w) (base := base) T;refine dF (N := ["n", "i", "j", "k", "three", "found", "g"]) (W := [4, 5, 6]) T.F_steps_of_names sc_steps_of_names dC fun cdv A outer s H E hr => ?_
 have hu := hr.units;exact (ai (bg 4 sc_steps_of_names.nd (ak (aY qG (aY qG (aY eO aj (ae 1)) (aY eO aj (ae 2))) (aY eO aj (ae 3)))))
   (ai (bg 5 sc_steps_of_names.nd (cO aB))
   (ai (cF (by rfl) (fJ (by rfl) T.b_range (ad (t4 dj (aN G_all_names (hr.mono dC) (by rfl) T.m_all_names T.F_all_names.kp T.n_all_names (ay 0 aX)) (ak aj)) aB)) (aS 6 sc_steps_of_names.nd) (av (cM (cu (ee hu) (ak (aY nA (ae 6) (ae 4))) (ak aj) (bD _)) (av (fj (oj 5 (aN G_steps_of (hr.mono dC) (by rfl) T.m_steps_of T.F_steps_of.kp T.n_steps_of (ay 1 (ay 2 (ay 3 (ay 6 aX)))))))) bV)) PassesOwn.never)
   (av (bx (dP 5))))))
theorem ua (T : Tx t) : cL P w K mg base dD 3 t.a_lclosed t.d_lclosed ["_law_n", "_law_pairs_here"] (dH K 2 jv) := by
 have G_lbring := jn (P := P) (w := w) (base := base) T;refine dF (N := ["_law_n", "_law_pairs_here", "_law_there", "_law_pair_here", "_law_rows", "_law_many", "_law_first", "_law_second", "_law_more"]) (W := [2, 3, 4, 5, 5, 6, 7, 8]) T.F_lclosed sc_lclosed dC fun cdv A outer s H E hr => ?_
 have hu := hr.units;exact (ai (bg 2 sc_lclosed.nd om)
   (ai (cF (by rfl) (dY (aL 1)) (aS 3 sc_lclosed.nd) (av (gA 2 hu (ae 3))) PassesOwn.never)
   (ai (bg 4 sc_lclosed.nd (aN G_lbring (hr.mono dC) (by rfl) T.m_lbring T.F_lbring.kp T.n_lbring (ay 0 aX)))
   (ai (bg 5 sc_lclosed.nd (ak (gJ aj)))
   (ai (mI (fuel := pI) (cu mQ (ak (ae 5)) (ak (dh (id := "len") jb (by rfl) T.b_len (by decide +kernel) (bt (ae 2) bR))) (bD _)) (ai (bg 5 sc_lclosed.nd (ak (dh (id := "len") jb (by rfl) T.b_len (by decide +kernel) (bt (ae 2) bR))))
   (av (cF (by rfl) (dY (aL 4)) (fW (by rfl) (bI (aS 6 sc_lclosed.nd) (bI (aS 7 sc_lclosed.nd) (bI (aS 8 sc_lclosed.nd) fk)))) (av (cM (gH (e7 (cA (iH hu) (ae 6) (ae 2) (by rfl)) (fI (cA (iH hu) (ae 7) (ae 2) (by rfl))))) (av (gA 2 hu (ae 8))) bV)) PassesOwn.never))) PassesOwn.never)
   (av (bx (mJ (by rfl) T.b_sorted (by decide +kernel) (ae 2)))))))))
theorem vg (T : Tx t) : cL P w K mg base dD 3 t.a_ldrawn t.d_ldrawn ["_law_script", "_law_start"] (dH K 2 kx) := by
 have G_lbring := jn (P := P) (w := w) (base := base) T;have G_lpairs := kY (P := P) (w := w) (base := base) T;have G_lpile := qB (P := P) (w := w) (base := base) T;have G_ltake := kg (P := P) (w := w) (base := base) T;refine dF (N := ["_law_script", "_law_start", "_law_n", "_law_every", "_law_rows", "_law_found", "_law_k", "_law_pile_here", "_law_way"]) (W := [2, 3, 4, 5, 6, 7, 8, 5]) T.F_ldrawn sc_ldrawn dC fun cdv A outer s H E hr => ?_
 have hu := hr.units;exact (ai (bg 2 sc_ldrawn.nd (de (cO (ad (ak aj) (ad (ak aj) (ad (ak aj) (ad (ak aj) (ad (ak aj) (ad (ak aj) aB))))))) (aN G_ltake (hr.mono dC) (by rfl) T.m_ltake T.F_ltake.kp T.n_ltake (cJ (aN G_lpile (hr.mono dC) (by rfl) T.m_lpile T.F_lpile.kp T.n_lpile (ay 0 (ay 1 aX))) (cJ (ak aj) aX)))))
   (ai (bg 3 sc_ldrawn.nd (aN G_lpairs (hr.mono dC) (by rfl) T.m_lpairs T.F_lpairs.kp T.n_lpairs (ay 2 aX)))
   (ai (bg 4 sc_ldrawn.nd (aN G_lbring (hr.mono dC) (by rfl) T.m_lbring T.F_lbring.kp T.n_lbring (ay 2 aX)))
   (ai (bg 5 sc_ldrawn.nd (cO aB))
   (ai (cF (by rfl) (t3 (by rfl) T.b_range (ad (ak aj) (ad (ak aj) aB))) (aS 6 sc_ldrawn.nd) (ai (bg 7 sc_ldrawn.nd (aN G_lpile (hr.mono dC) (by rfl) T.m_lpile T.F_lpile.kp T.n_lpile (ay 0 (cJ (ak (aY dj (ae 1) (ae 6))) aX))))
   (ai (bg 8 sc_ldrawn.nd (aN G_ltake (hr.mono dC) (by rfl) T.m_ltake T.F_ltake.kp T.n_ltake (ay 7 (cJ (ak aj) aX))))
   (av (cM (gH (e7 (cu (ee hu) (ak (ae 8)) (ak aj) (bD _)) (fI (cA (kh hu) (ae 4) (jT bR) (bD _))))) (av (bg 5 sc_ldrawn.nd (fX (dP 5) (uV (by rfl) T.b_list (by decide +kernel) (yq (de (aL 4) (aN G_ltake (hr.mono dC) (by rfl) T.m_ltake T.F_ltake.kp T.n_ltake (ay 7 (cJ (ak (dh (id := "len") jA (by rfl) T.b_len (by decide +kernel) (bt (ae 4) bR))) aX)))) dJ (dg aj)))))) (av (cM (gH (e7 (cu mQ (ak (ae 8)) (ak aj) (bD _)) (fI (cA (kh hu) (ae 3) (jT bR) (bD _))))) (av (fj (g9 5 (de (aL 3) (aN G_ltake (hr.mono dC) (by rfl) T.m_ltake T.F_ltake.kp T.n_ltake (ay 7 (cJ (ak (dh (id := "len") jA (by rfl) T.b_len (by decide +kernel) (bt (ae 3) bR))) aX))))))) bV)))))) PassesOwn.never)
   (av (bx (bB (ad (ak (ae 2)) (ad (dP 5) aB))))))))))
theorem wy (T : Tx t) : cL P w K mg base dD 3 t.a_lmade t.d_lmade ["_law_n", "_law_pairs_here"] (dH K 2 lP) := by
 have G_lbring := jn (P := P) (w := w) (base := base) T;refine dF (N := ["_law_n", "_law_pairs_here", "_law_there", "_law_pair_here", "_law_steps", "_law_rows", "_law_many", "_law_first", "_law_second", "_law_more"]) (W := [2, 3, 4, 5, 6, 6, 7, 8, 9]) T.F_lmade sc_lmade dC fun cdv A outer s H E hr => ?_
 have hu := hr.units;exact (ai (bg 2 sc_lmade.nd om)
   (ai (cF (by rfl) (dY (aL 1)) (aS 3 sc_lmade.nd) (av (gA 2 hu (ae 3))) PassesOwn.never)
   (ai (bg 4 sc_lmade.nd (cO aB))
   (ai (bg 5 sc_lmade.nd (aN G_lbring (hr.mono dC) (by rfl) T.m_lbring T.F_lbring.kp T.n_lbring (ay 0 aX)))
   (ai (bg 6 sc_lmade.nd (ak (gJ aj)))
   (ai (mI (fuel := sS) (cu mQ (ak (ae 6)) (ak (dh (id := "len") jb (by rfl) T.b_len (by decide +kernel) (bt (ae 2) bR))) (bD _)) (ai (bg 6 sc_lmade.nd (ak (dh (id := "len") jb (by rfl) T.b_len (by decide +kernel) (bt (ae 2) bR))))
   (av (cF (by rfl) (dY (aL 5)) (fW (by rfl) (bI (aS 7 sc_lmade.nd) (bI (aS 8 sc_lmade.nd) (bI (aS 9 sc_lmade.nd) fk)))) (av (cM (gH (e7 (cA (iH hu) (ae 7) (ae 2) (by rfl)) (e7 (cA (iH hu) (ae 8) (ae 2) (by rfl)) (fI (cA (jU hu) (ae 9) (ae 2) (by rfl)))))) (ai (gA 2 hu (ae 9))
   (av (fj (g9 4 (bB (ad (aL 7) (ad (aL 8) (ad (aL 9) aB)))))))) bV)) PassesOwn.never))) PassesOwn.never)
   (av (bx (bB (ad (mJ (by rfl) T.b_sorted (by decide +kernel) (ae 2)) (ad (dP 4) aB)))))))))))
theorem oz (T : Tx t) : cL P w K mg base dD 3 t.a_lbent_found t.d_lbent_found ["_law_found", "_law_pile_here", "_law_pair_here"] (dH K 3 gv) := by
 have G_ltake := kg (P := P) (w := w) (base := base) T;refine dF (N := ["_law_found", "_law_pile_here", "_law_pair_here", "_law_way", "_law_at"]) (W := [3, 4]) T.F_lbent_found sc_lbent_found dC fun cdv A outer s H E hr => ?_
 have hu := hr.units;exact (ai (bg 3 sc_lbent_found.nd (aN G_ltake (hr.mono dC) (by rfl) T.m_ltake T.F_ltake.kp T.n_ltake (ay 1 (cJ (ak aj) aX))))
   (ai (bg 4 sc_lbent_found.nd (aN G_ltake (hr.mono dC) (by rfl) T.m_ltake T.F_ltake.kp T.n_ltake (ay 1 (cJ (ak (aY dj (dh (id := "len") jA (by rfl) T.b_len (by decide +kernel) (bt (ae 0) bR)) aj)) aX))))
   (ai (cM (cu (ee hu) (ak (ae 3)) (ak aj) (bD _)) (av (bx (fX (eu (ae 0) dJ (dg (ae 4))) (eu (ae 0) (dg (aY dj (ae 4) aj)) dJ)))) bV)
   (ai (cM (cu (ee hu) (ak (ae 3)) (ak aj) (bD _)) (av (bx (wj (by rfl) T.b_sorted (by decide +kernel) (oq (aL 0) (cO (ad (aL 2) aB)))))) bV)
   (ai (cM (cu (ee hu) (ak (ae 3)) (ak aj) (bD _)) (av (bx (fX (fX (eu (ae 0) dJ (dg (ae 4))) (eu (ae 0) (dg (ae 4)) (dg (aY dj (ae 4) aj)))) (eu (ae 0) (dg (ae 4)) dJ)))) bV)
   (av (bx (pj (ae 0) (gJ aj)))))))))
theorem ou (T : Tx t) : cL P w K mg base dD 3 t.a_lbent_steps t.d_lbent_steps ["_law_steps", "_law_pile_here", "_law_drawn_here"] (dH K 3 gu) := by
 have G_ltake := kg (P := P) (w := w) (base := base) T;refine dF (N := ["_law_steps", "_law_pile_here", "_law_drawn_here", "_law_way", "_law_at", "_law_one", "_law_other", "_law_more", "_law_some"]) (W := [3, 4, 5, 6, 7, 8, 8]) T.F_lbent_steps sc_lbent_steps dC fun cdv A outer s H E hr => ?_
 have hu := hr.units;exact (ai (bg 3 sc_lbent_steps.nd (aN G_ltake (hr.mono dC) (by rfl) T.m_ltake T.F_ltake.kp T.n_ltake (ay 1 (cJ (ak aj) aX))))
   (ai (bg 4 sc_lbent_steps.nd (aN G_ltake (hr.mono dC) (by rfl) T.m_ltake T.F_ltake.kp T.n_ltake (ay 1 (cJ (ak (dh (id := "len") jA (by rfl) T.b_len (by decide +kernel) (bt (ae 0) bR))) aX))))
   (ai (ij (de (aL 0) (ak (ae 4))) (fW (by rfl) (bI (aS 5 sc_lbent_steps.nd) (bI (aS 6 sc_lbent_steps.nd) (bI (aS 7 sc_lbent_steps.nd) fk)))))
   (ai (bg 8 sc_lbent_steps.nd (cO (ad (cO aB) (ad (by exact (cO (ad (de (aL 0) (ak (ae 4))) (ad (de (aL 0) (ak (ae 4))) aB)))) (ad (by exact (cO (ad (bB (ad (aL 6) (ad (aL 5) (ad (aL 7) aB)))) aB))) (ad (by exact (cO (ad (bB (ad (de (aL 2) (ak aj)) (ad (aL 6) (ad (aL 7) aB)))) aB))) (ad (by exact (cO (ad (bB (ad (aL 5) (ad (de (aL 2) (ak aj)) (ad (aL 7) aB)))) aB))) aB)))))))
   (ai (bg 8 sc_lbent_steps.nd (fX (dP 8) (cO (ad (by exact (cO (ad (bB (ad (aL 5) (ad (aL 6) (ad (de (aL 2) (ak aj)) aB)))) aB))) (ad (by exact (cO (ad (de (aL 0) (ak (ae 4))) (ad (bB (ad (de (aL 2) (ak aj)) (ad (de (aL 2) (ak aj)) (ad (de (aL 2) (ak aj)) aB)))) aB)))) aB)))))
   (ai (cM (cu mQ (ak (ae 3)) (ak aj) (bD _)) (av (bx (fX (oq (eu (ae 0) dJ (dg (ae 4))) (de (aL 8) (ak (ae 3)))) (eu (ae 0) (dg (aY dj (ae 4) aj)) dJ)))) bV)
   (ai (cM (cu (ee hu) (ak (ae 3)) (ak aj) (bD _)) (av (bx (pj (ae 0) (gJ aj)))) bV)
   (ai (cM (cu (ee hu) (ak (ae 3)) (ak aj) (bD _)) (av (bx (fX (eu (ae 0) (dg aj) dJ) (eu (ae 0) dJ (dg aj))))) bV)
   (av (bx (fX (fX (eu (ae 0) dJ (dg (ae 4))) (cO (ad (bB (ad (aL 5) (ad (aL 6) (ad (aL 5) aB)))) aB))) (eu (ae 0) (dg (ae 4)) dJ))))))))))))
theorem qC (T : Tx t) : cL P w K mg base dD 4 t.a_all_pairs t.d_all_pairs ["n"] (dH K 1 ia) := by
 have G_rules := ww (P := P) (w := w) (base := base) T;refine dF (N := ["n"]) (W := []) T.F_all_pairs qg dC fun cdv A outer s H E hr => ?_
 have hu := hr.units;exact (av (bx (mS ["n", "rule"] (dY (aN G_rules (hr.mono dC) (by rfl) T.m_rules T.F_rules.kp T.n_rules (ay 0 aX))) (fun _ _ _ _ _ => by exact (aS 1 (show List.Nodup (["n", "rule"] : List Str) by decide +kernel))) (fun _ _ _ _ _ => by exact (jS (cu (ee hu) (ak (eN (hs := eA) (ae 1) aj)) (ak qt) (bD _)))) (fun _ _ _ _ _ => by exact (bB (ad (ak (eN (hs := eA) (ae 1) aj)) (ad (ak (eN (hs := eA) (ae 1) aj)) (ad (ak (eN (hs := eA) (ae 1) aj)) aB))))))))
theorem kZ (T : Tx t) : cL P w K mg base dD 4 t.a_all_steps t.d_all_steps ["n"] (dH K 1 gc) := by
 have G_steps_of_names := lV (P := P) (w := w) (base := base) T;refine dF (N := ["n", "found", "i", "j", "k"]) (W := [1, 2, 3, 4]) T.F_all_steps sc_all_steps dC fun cdv A outer s H E hr => ?_
 have hu := hr.units;exact (ai (bg 1 sc_all_steps.nd (cO aB))
   (ai (cF (by rfl) (fJ (by rfl) T.b_range (ad (ak (ae 0)) aB)) (aS 2 sc_all_steps.nd) (av (cF (by rfl) (fJ (by rfl) T.b_range (ad (ak (ae 0)) aB)) (aS 3 sc_all_steps.nd) (av (cF (by rfl) (fJ (by rfl) T.b_range (ad (ak (ae 0)) aB)) (aS 4 sc_all_steps.nd) (av (cM (gH (e7 (cu (kh hu) (ak (ae 2)) (ak (ae 3)) (bD _)) (e7 (cu (kh hu) (ak (ae 2)) (ak (ae 4)) (bD _)) (fI (cu (kh hu) (ak (ae 3)) (ak (ae 4)) (bD _)))))) (av (fj (oj 1 (aN G_steps_of_names (hr.mono dC) (by rfl) T.m_steps_of_names T.F_steps_of_names.kp T.n_steps_of_names (ay 0 (ay 2 (ay 3 (ay 4 aX)))))))) bV)) PassesOwn.never)) PassesOwn.never)) PassesOwn.never)
   (av (bx (dP 1)))))
theorem ve (T : Tx t) : cL P w K mg base dD 4 t.a_lright t.d_lright ["_law_n", "_law_pairs_here", "_law_found", "_law_steps"] (dH K 4 ku) := by
 have G_lbring := jn (P := P) (w := w) (base := base) T;have G_lclosed := ua (P := P) (w := w) (base := base) T;refine dF (N := ["_law_n", "_law_pairs_here", "_law_found", "_law_steps", "_law_there", "_law_pair_here", "_law_rows", "_law_one", "_law_other", "_law_more"]) (W := [4, 5, 6, 7, 8, 9]) T.F_lright sc_lright dC fun cdv A outer s H E hr => ?_
 have hu := hr.units;exact (ai (bg 4 sc_lright.nd om)
   (ai (cF (by rfl) (dY (aL 1)) (aS 5 sc_lright.nd) (av (gA 4 hu (ae 5))) PassesOwn.never)
   (ai (bg 6 sc_lright.nd (aN G_lbring (hr.mono dC) (by rfl) T.m_lbring T.F_lbring.kp T.n_lbring (ay 0 aX)))
   (ai (cF (by rfl) (dY (aL 3)) (fW (by rfl) (bI (aS 7 sc_lright.nd) (bI (aS 8 sc_lright.nd) (bI (aS 9 sc_lright.nd) fk)))) (ai (cM (gH (jk (cA (jU hu) (ae 7) (ae 4) (by rfl)) (jk (cA (jU hu) (ae 8) (ae 4) (by rfl)) (kT (cA (iH hu) (ae 9) (ae 4) (by rfl)))))) (av (bx (ak jl))) bV)
   (ai (cM (gH (e7 (sE (ud hu) (bB (ad (aL 7) (ad (aL 8) (ad (aL 9) aB)))) (ae 6) (by rfl)) (fI (sE (ud hu) (bB (ad (aL 8) (ad (aL 7) (ad (aL 9) aB)))) (ae 6) (by rfl))))) (av (bx (ak jl))) bV)
   (av (gA 4 hu (ae 9))))) PassesOwn.never)
   (av (bx (zI (oo (ee hu) (mJ (by rfl) T.b_sorted (by decide +kernel) (ae 4)) (ae 2) (bD _)) (uU (yr 2 (ee hu) (aN G_lclosed (hr.mono dC) (by rfl) T.m_lclosed T.F_lclosed.kp T.n_lclosed (ay 0 (ay 1 aX))) (bD _))))))))))
theorem wz (T : Tx t) : cL P w K mg base dD 4 t.a_lbent t.d_lbent ["_law_n", "_law_pairs_here", "_law_pile_here"] (dH K 3 lQ) := by
 have G_lbent_found := oz (P := P) (w := w) (base := base) T;have G_lbent_steps := ou (P := P) (w := w) (base := base) T;have G_lmade := wy (P := P) (w := w) (base := base) T;have G_lpairs := kY (P := P) (w := w) (base := base) T;have G_ltake := kg (P := P) (w := w) (base := base) T;refine dF (N := ["_law_n", "_law_pairs_here", "_law_pile_here", "_law_found", "_law_steps", "_law_every", "_law_way", "_law_drawn_here"]) (W := [3, 4, 5, 6, 7]) T.F_lbent sc_lbent dC fun cdv A outer s H E hr => ?_
 have hu := hr.units;exact (ai (ij (aN G_lmade (hr.mono dC) (by rfl) T.m_lmade T.F_lmade.kp T.n_lmade (ay 0 (ay 1 aX))) (fW (by rfl) (bI (aS 3 sc_lbent.nd) (bI (aS 4 sc_lbent.nd) fk))))
   (ai (bg 5 sc_lbent.nd (aN G_lpairs (hr.mono dC) (by rfl) T.m_lpairs T.F_lpairs.kp T.n_lpairs (ay 0 aX)))
   (ai (bg 6 sc_lbent.nd (aN G_ltake (hr.mono dC) (by rfl) T.m_ltake T.F_ltake.kp T.n_ltake (ay 2 (cJ (ak aj) aX))))
   (ai (cM (gH (jk (cA (ee hu) (ae 5) (jT bR) (bD _)) (kT (cu (ee hu) (ak (ae 6)) (ak aj) (bD _))))) (av (bx (bB (ad (aL 1) (ad (dP 3) (ad (dP 4) aB)))))) bV)
   (ai (Ap 7 ["_law_n", "_law_pairs_here", "_law_pile_here", "_law_found", "_law_steps", "_law_every", "_law_way", "_law_drawn_here", "_law_k"] sc_lbent.nd (fJ (by rfl) T.b_range (ad (ak aj) aB)) (fun _ _ _ _ _ => by exact (aS 8 (show List.Nodup (["_law_n", "_law_pairs_here", "_law_pile_here", "_law_found", "_law_steps", "_law_every", "_law_way", "_law_drawn_here", "_law_k"] : List Str) by decide +kernel))) (fun _ _ _ _ _ => by exact lD) (fun _ _ _ _ _ => by exact (de (aL 5) (aN G_ltake (hr.mono dC) (by rfl) T.m_ltake T.F_ltake.kp T.n_ltake (ay 2 (cJ (ak (dh (id := "len") jA (by rfl) T.b_len (by decide +kernel) (bt (ae 5) bR))) aX))))))
   (ai (cM (gH (jk (cu mQ (ak (ae 6)) (ak aj) (bD _)) (kT (cA (ee hu) (ae 4) (jT bR) (bD _))))) (av (bx (bB (ad (aL 1) (ad (aN G_lbent_found (hr.mono dC) (by rfl) T.m_lbent_found T.F_lbent_found.kp T.n_lbent_found (ay 3 (ay 2 (cJ (de (aL 7) (ak aj)) aX)))) (ad (dP 4) aB)))))) bV)
   (ai (cM (cu (ee hu) (ak (ae 6)) (ak aj) (bD _)) (av (bx (bB (ad (eu (ae 1) dJ (dg (gJ aj))) (ad (dP 3) (ad (dP 4) aB)))))) bV)
   (ai (cM (cu (ee hu) (ak (ae 6)) (ak aj) (bD _)) (av (bx (bB (ad (oq (aL 1) (cO (ad (de (de (aL 4) (aN G_ltake (hr.mono dC) (by rfl) T.m_ltake T.F_ltake.kp T.n_ltake (ay 2 (cJ (ak (dh (id := "len") jA (by rfl) T.b_len (by decide +kernel) (bt (ae 4) bR))) aX)))) (ak aj)) aB))) (ad (dP 3) (ad (aL 4) aB)))))) bV)
   (ai (cM (cu (ee hu) (ak (ae 6)) (ak aj) (bD _)) (av (bx (bB (ad (aL 1) (ad (mS ["_law_n", "_law_pairs_here", "_law_pile_here", "_law_found", "_law_steps", "_law_every", "_law_way", "_law_drawn_here", "_law_pair_here"] (dY (aL 3)) (fun _ _ _ _ _ => by exact (aS 8 (show List.Nodup (["_law_n", "_law_pairs_here", "_law_pile_here", "_law_found", "_law_steps", "_law_every", "_law_way", "_law_drawn_here", "_law_pair_here"] : List Str) by decide +kernel))) (fun _ _ _ _ _ => by exact (jS (cA (kh hu) (ae 8) (eN (hs := eA) (eN (ae 4) (gJ aj)) aj) (bD _)))) (fun _ _ _ _ _ => by exact (aL 8))) (ad (eu (ae 4) dJ (dg (gJ aj))) aB)))))) bV)
   (av (bx (bB (ad (aL 1) (ad (dP 3) (ad (aN G_lbent_steps (hr.mono dC) (by rfl) T.m_lbent_steps T.F_lbent_steps.kp T.n_lbent_steps (ay 4 (ay 2 (ay 7 aX)))) aB)))))))))))))))
theorem mP (T : Tx t) : cL P w K mg base dD 5 t.a_brought_pairs t.d_brought_pairs ["n", "pairs"] (dH K 2 fy) := by
 have G_all_pairs := qC (P := P) (w := w) (base := base) T;have G_all_steps := kZ (P := P) (w := w) (base := base) T;refine dF (N := ["n", "pairs", "silent", "steps", "many", "one", "other", "more"]) (W := [2, 3, 4, 4, 5, 6, 7]) T.F_brought_pairs sc_brought_pairs dC fun cdv A outer s H E hr => ?_
 have hu := hr.units;exact (ai (bg 2 sc_brought_pairs.nd (qr hu (by rfl) T.b_dict (by decide +kernel) (mS ["n", "pairs", "silent", "steps", "many", "one", "other", "more", "pair"] (dY (aL 1)) (fun _ _ _ _ _ => by exact (aS 8 (show List.Nodup (["n", "pairs", "silent", "steps", "many", "one", "other", "more", "pair"] : List Str) by decide +kernel))) (fun _ _ _ _ _ => by exact lD) (fun _ _ _ _ _ => by exact (bB (ad (aL 8) (ad (ak jl) aB)))))))
   (ai (bg 3 sc_brought_pairs.nd (cO aB))
   (ai (bg 4 sc_brought_pairs.nd (ak (gJ aj)))
   (ai (mI (fuel := jz) (cu mQ (ak (ae 4)) (ak (dh (id := "len") jb (by rfl) T.b_len (by decide +kernel) (bt (ae 2) bR))) (bD _)) (ai (bg 4 sc_brought_pairs.nd (ak (dh (id := "len") jb (by rfl) T.b_len (by decide +kernel) (bt (ae 2) bR))))
   (av (cF (by rfl) (dY (aN G_all_steps (hr.mono dC) (by rfl) T.m_all_steps T.F_all_steps.kp T.n_all_steps (ay 0 aX))) (fW (by rfl) (bI (aS 5 sc_brought_pairs.nd) (bI (aS 6 sc_brought_pairs.nd) (bI (aS 7 sc_brought_pairs.nd) fk)))) (av (cM (gH (e7 (cA (iH hu) (ae 5) (ae 2) (by rfl)) (e7 (cA (iH hu) (ae 6) (ae 2) (by rfl)) (fI (cA (jU hu) (ae 7) (ae 2) (by rfl)))))) (ai (gA 2 hu (ae 7))
   (av (fj (g9 3 (bB (ad (aL 5) (ad (aL 6) (ad (aL 7) aB)))))))) bV)) PassesOwn.never))) PassesOwn.never)
   (av (bx (bB (ad (mS ["n", "pairs", "silent", "steps", "many", "one", "other", "more", "pair"] (dY (aN G_all_pairs (hr.mono dC) (by rfl) T.m_all_pairs T.F_all_pairs.kp T.n_all_pairs (ay 0 aX))) (fun _ _ _ _ _ => by exact (aS 8 (show List.Nodup (["n", "pairs", "silent", "steps", "many", "one", "other", "more", "pair"] : List Str) by decide +kernel))) (fun _ _ _ _ _ => by exact (jS (cA (iH hu) (ae 8) (ae 2) (by rfl)))) (fun _ _ _ _ _ => by exact (aL 8))) (ad (dP 3) aB)))))))))
theorem pX (T : Tx t) : cL P w K mg base dD 6 t.a_steps_hold t.d_steps_hold ["n", "pairs", "found", "steps"] (dH K 4 gO) := by
 have G_all_steps := kZ (P := P) (w := w) (base := base) T;have G_brought_pairs := mP (P := P) (w := w) (base := base) T;have G_is_step := ub (P := P) (w := w) (base := base) T;refine dF (N := ["n", "pairs", "found", "steps", "allowed", "silent", "one", "other", "more"]) (W := [4, 5, 6, 7, 8]) T.F_steps_hold sc_steps_hold dC fun cdv A outer s H E hr => ?_
 have hu := hr.units;exact (ai (cM (sF 2 (kh hu) (de (aN G_brought_pairs (hr.mono dC) (by rfl) T.m_brought_pairs T.F_brought_pairs.kp T.n_brought_pairs (ay 0 (ay 1 aX))) (ak aj)) (bD _)) (av (bx (ak jl))) bV)
   (ai (bg 4 sc_steps_hold.nd (aN G_all_steps (hr.mono dC) (by rfl) T.m_all_steps T.F_all_steps.kp T.n_all_steps (ay 0 aX)))
   (ai (bg 5 sc_steps_hold.nd (qr hu (by rfl) T.b_dict (by decide +kernel) (mS ["n", "pairs", "found", "steps", "allowed", "silent", "one", "other", "more", "pair"] (dY (aL 1)) (fun _ _ _ _ _ => by exact (aS 9 (show List.Nodup (["n", "pairs", "found", "steps", "allowed", "silent", "one", "other", "more", "pair"] : List Str) by decide +kernel))) (fun _ _ _ _ _ => by exact lD) (fun _ _ _ _ _ => by exact (bB (ad (aL 9) (ad (ak jl) aB)))))))
   (ai (cF (by rfl) (dY (aL 3)) (fW (by rfl) (bI (aS 6 sc_steps_hold.nd) (bI (aS 7 sc_steps_hold.nd) (bI (aS 8 sc_steps_hold.nd) fk)))) (ai (cM (gH (jk (cA (jU hu) (ae 6) (ae 5) (by rfl)) (jk (cA (jU hu) (ae 7) (ae 5) (by rfl)) (jk (cA (iH hu) (ae 8) (ae 5) (by rfl)) (kT (uS (zH (aN G_is_step (hr.mono dC) (by rfl) T.m_is_step T.F_is_step.kp T.n_is_step (ay 4 (ay 6 (ay 7 (ay 8 aX)))))))))))) (av (bx (ak jl))) bV)
   (av (gA 5 hu (ae 8)))) PassesOwn.never)
   (av (bx (ak (uX (ee hu) (dh (id := "len") jb (by rfl) T.b_len (by decide +kernel) (bt (ae 5) bR)) (dh (id := "len") jA (by rfl) T.b_len (by decide +kernel) (bt (ae 2) bR)) (bD _)))))))))
theorem Ah (T : Tx t) {f : Addr} {fd : FuncData} (F : Fun K "law" "law" nv f fd) : cL P w K mg base dD 7 f fd ["_law_script"] (dH K 1 jw) := by
 have G_lbent := wz (P := P) (w := w) (base := base) T;have G_ldrawn := vg (P := P) (w := w) (base := base) T;have G_lpile := qB (P := P) (w := w) (base := base) T;have G_lright := ve (P := P) (w := w) (base := base) T;have G_steps_hold := pX (P := P) (w := w) (base := base) T;refine dF (N := ["_law_script", "_law_turn", "_law_n", "_law_pairs_here", "_law_time", "_law_pile_here", "_law_some", "_law_found", "_law_steps", "_law_handed", "_law_told"]) (W := [1, 2, 3, 4, 5, 6, 7, 8, 9, 10]) F sc_law dC fun cdv A outer s H E hr => ?_
 have hu := hr.units;exact (ai (cF (by rfl) (fJ (by rfl) T.b_range (ad (ak aj) aB)) (aS 1 sc_law.nd) (ai (ij (aN G_ldrawn (hr.mono dC) (by rfl) T.m_ldrawn T.F_ldrawn.kp T.n_ldrawn (ay 0 (cJ (ak (aY iG aj (ae 1))) aX))) (fW (by rfl) (bI (aS 2 sc_law.nd) (bI (aS 3 sc_law.nd) fk))))
   (av (cF (by rfl) (fJ (by rfl) T.b_range (ad (ak aj) aB)) (aS 4 sc_law.nd) (ai (bg 5 sc_law.nd (aN G_lpile (hr.mono dC) (by rfl) T.m_lpile T.F_lpile.kp T.n_lpile (ay 0 (cJ (ak (aY dj (aY dj (aY iG aj (ae 1)) aj) (aY iG aj (ae 4)))) aX))))
   (ai (ij (ak (aY xB (eN (hs := eA) (ae 5) aj) (aY xA aj aj))) (nw (t2 5) aj))
   (ai (ij (ak (aY dj (eN (hs := eA) (ae 5) aj) aj)) (nw (t2 5) aj))
   (ai (ij (aN G_lbent (hr.mono dC) (by rfl) T.m_lbent T.F_lbent.kp T.n_lbent (ay 2 (ay 3 (ay 5 aX)))) (fW (by rfl) (bI (aS 6 sc_law.nd) (bI (aS 7 sc_law.nd) (bI (aS 8 sc_law.nd) fk)))))
   (ai (bg 9 sc_law.nd (bB (ad (mK (by rfl) T.b_list (by decide +kernel) (ae 6)) (ad (mK (by rfl) T.b_list (by decide +kernel) (ae 7)) (ad (mK (by rfl) T.b_list (by decide +kernel) (ae 8)) aB)))))
   (ai (bg 10 sc_law.nd (aN G_steps_hold (hr.mono dC) (by rfl) T.m_steps_hold T.F_steps_hold.kp T.n_steps_hold (ay 2 (cJ (de (aL 9) (ak aj)) (cJ (de (aL 9) (ak aj)) (cJ (de (aL 9) (ak aj)) aX))))))
   (ai (cM (gH (jk (uS (zH (ak (dh (id := "isinstance") BL (by rfl) T.b_isinstance (by decide +kernel) (bt (ae 10) (bt (uW (T := "bool") (by rfl) T.b_bool (by decide +kernel)) bR)))))) (kT (cu (kh hu) (ak (ae 10)) (aN G_lright (hr.mono dC) (by rfl) T.m_lright T.F_lright.kp T.n_lright (ay 2 (ay 6 (ay 7 (ay 8 aX))))) (bD _))))) pi bV)
   (av (cM (sF 9 (kh hu) (bB (ad (aL 6) (ad (aL 7) (ad (aL 8) aB)))) (bD _)) pi bV))))))))) PassesOwn.never))) PassesOwn.never)
   (av (bx (ak jl))))
end
noncomputable abbrev eI (K : PySem.W.Frag) (x : Str) (f : Addr) : Prop := nsIn K mainGlobals x = some (some (.ref f))
noncomputable abbrev eM (K : PySem.W.Frag) (c : Value) (x : Str) : Prop := codeIn K c x = true
noncomputable abbrev eK (K : PySem.W.Frag) (f : Addr) : Prop := keepIn K (.ref f) = true
noncomputable abbrev cD (x : Str) (s : Stmt) (k d p : Value) (a : Option Addr) (c t : Value) : FuncData := fnOf x x (j7 s) (h8 s) (bh s) .none k d p a c t
noncomputable abbrev eJ (K : PySem.W.Frag) (f : Addr) (o : Value) (d : Option Addr) (F : FuncData) (s : Array (Option Value)) : Prop := K.lookup f = some ⟨o, d, .func F, s⟩
theorem AQ {l : PySem.W.OpenLaw} {w : World} {K : PySem.W.Frag} {h : Heap} {mg : Str -> Option Value} {fa : Addr} (X : K.In h) (G : h.Ns mainGlobals mg) (hfa : mg "law" = some (.ref fa))
 {f0 f1 f2 f3 f4 f5 f6 f7 f8 f9 f10 f11 f12 f13 f14 f15 f16 f17 f18 f19 f20 f21 f22 f23 f24 : Addr} {od0 an0 od1 an1 od2 an2 od3 an3 od4 an4 od5 an5 od6 an6 od7 an7 od8 an8 od9 an9 od10 an10 od11 an11 od12 an12 od13 an13 od14 an14 od15 an15 od16 an16 od17 an17 od18 an18 od19 an19 od20 an20 od21 an21 od22 an22 od23 an23 od24 an24 : Option Addr} {sl0 sl1 sl2 sl3 sl4 sl5 sl6 sl7 sl8 sl9 sl10 sl11 sl12 sl13 sl14 sl15 sl16 sl17 sl18 sl19 sl20 sl21 sl22 sl23 sl24 : Array (Option Value)} {oc0 kV0 dc0 pm0 cd0 ct0 oc1 kV1 dc1 pm1 cd1 ct1 oc2 kV2 dc2 pm2 cd2 ct2 oc3 kV3 dc3 pm3 cd3 ct3 oc4 kV4 dc4 pm4 cd4 ct4 oc5 kV5 dc5 pm5 cd5 ct5 oc6 kV6 dc6 pm6 cd6 ct6 oc7 kV7 dc7 pm7 cd7 ct7 oc8 kV8 dc8 pm8 cd8 ct8 oc9 kV9 dc9 pm9 cd9 ct9 oc10 kV10 dc10 pm10 cd10 ct10 oc11 kV11 dc11 pm11 cd11 ct11 oc12 kV12 dc12 pm12 cd12 ct12 oc13 kV13 dc13 pm13 cd13 ct13 oc14 kV14 dc14 pm14 cd14 ct14 oc15 kV15 dc15 pm15 cd15 ct15 oc16 kV16 dc16 pm16 cd16 ct16 oc17 kV17 dc17 pm17 cd17 ct17 oc18 kV18 dc18 pm18 cd18 ct18 oc19 kV19 dc19 pm19 cd19 ct19 oc20 kV20 dc20 pm20 cd20 ct20 oc21 kV21 dc21 pm21 cd21 ct21 oc22 kV22 dc22 pm22 cd22 ct22 oc23 kV23 dc23 pm23 cd23 ct23 oc24 kV24 dc24 pm24 cd24 ct24 : Value}
  (a0 : eI K "all_names" f0) (l0 : eJ K f0 oc0 od0 (cD "all_names" fV kV0 dc0 pm0 an0 cd0 ct0) sl0) (c0 : eM K cd0 "all_names") (k0 : eK K f0)
  (a1 : eI K "pair_of" f1) (l1 : eJ K f1 oc1 od1 (cD "pair_of" ie kV1 dc1 pm1 an1 cd1 ct1) sl1) (c1 : eM K cd1 "pair_of") (k1 : eK K f1)
  (a2 : eI K "is_step" f2) (l2 : eJ K f2 oc2 od2 (cD "is_step" ii kV2 dc2 pm2 an2 cd2 ct2) sl2) (c2 : eM K cd2 "is_step") (k2 : eK K f2)
  (a3 : eI K "_law_mixed" f3) (l3 : eJ K f3 oc3 od3 (cD "_law_mixed" iU kV3 dc3 pm3 an3 cd3 ct3) sl3) (c3 : eM K cd3 "_law_mixed") (k3 : eK K f3)
  (a4 : eI K "_law_pile" f4) (l4 : eJ K f4 oc4 od4 (cD "_law_pile" jO kV4 dc4 pm4 an4 cd4 ct4) sl4) (c4 : eM K cd4 "_law_pile") (k4 : eK K f4)
  (a5 : eI K "_law_pair" f5) (l5 : eJ K f5 oc5 od5 (cD "_law_pair" jP kV5 dc5 pm5 an5 cd5 ct5) sl5) (c5 : eM K cd5 "_law_pair") (k5 : eK K f5)
  (a6 : eI K "_law_pairs" f6) (l6 : eJ K f6 oc6 od6 (cD "_law_pairs" iT kV6 dc6 pm6 an6 cd6 ct6) sl6) (c6 : eM K cd6 "_law_pairs") (k6 : eK K f6)
  (a7 : eI K "pairs_with_known" f7) (l7 : eJ K f7 oc7 od7 (cD "pairs_with_known" dt kV7 dc7 pm7 an7 cd7 ct7) sl7) (c7 : eM K cd7 "pairs_with_known") (k7 : eK K f7)
  (a8 : eI K "steps_of" f8) (l8 : eJ K f8 oc8 od8 (cD "steps_of" gF kV8 dc8 pm8 an8 cd8 ct8) sl8) (c8 : eM K cd8 "steps_of") (k8 : eK K f8)
  (a9 : eI K "_law_take" f9) (l9 : eJ K f9 oc9 od9 (cD "_law_take" jN kV9 dc9 pm9 an9 cd9 ct9) sl9) (c9 : eM K cd9 "_law_take") (k9 : eK K f9)
  (a10 : eI K "_law_bring" f10) (l10 : eJ K f10 oc10 od10 (cD "_law_bring" iW kV10 dc10 pm10 an10 cd10 ct10) sl10) (c10 : eM K cd10 "_law_bring") (k10 : eK K f10)
  (a11 : eI K "rules" f11) (l11 : eJ K f11 oc11 od11 (cD "rules" jM kV11 dc11 pm11 an11 cd11 ct11) sl11) (c11 : eM K cd11 "rules") (k11 : eK K f11)
  (a12 : eI K "steps_of_names" f12) (l12 : eJ K f12 oc12 od12 (cD "steps_of_names" dO kV12 dc12 pm12 an12 cd12 ct12) sl12) (c12 : eM K cd12 "steps_of_names") (k12 : eK K f12)
  (a13 : eI K "_law_closed" f13) (l13 : eJ K f13 oc13 od13 (cD "_law_closed" ig kV13 dc13 pm13 an13 cd13 ct13) sl13) (c13 : eM K cd13 "_law_closed") (k13 : eK K f13)
  (a14 : eI K "_law_drawn" f14) (l14 : eJ K f14 oc14 od14 (cD "_law_drawn" iV kV14 dc14 pm14 an14 cd14 ct14) sl14) (c14 : eM K cd14 "_law_drawn") (k14 : eK K f14)
  (a15 : eI K "_law_made" f15) (l15 : eJ K f15 oc15 od15 (cD "_law_made" jQ kV15 dc15 pm15 an15 cd15 ct15) sl15) (c15 : eM K cd15 "_law_made") (k15 : eK K f15)
  (a16 : eI K "_law_bent_found" f16) (l16 : eJ K f16 oc16 od16 (cD "_law_bent_found" eZ kV16 dc16 pm16 an16 cd16 ct16) sl16) (c16 : eM K cd16 "_law_bent_found") (k16 : eK K f16)
  (a17 : eI K "_law_bent_steps" f17) (l17 : eJ K f17 oc17 od17 (cD "_law_bent_steps" eY kV17 dc17 pm17 an17 cd17 ct17) sl17) (c17 : eM K cd17 "_law_bent_steps") (k17 : eK K f17)
  (a18 : eI K "all_pairs" f18) (l18 : eJ K f18 oc18 od18 (cD "all_pairs" fU kV18 dc18 pm18 an18 cd18 ct18) sl18) (c18 : eM K cd18 "all_pairs") (k18 : eK K f18)
  (a19 : eI K "all_steps" f19) (l19 : eJ K f19 oc19 od19 (cD "all_steps" fT kV19 dc19 pm19 an19 cd19 ct19) sl19) (c19 : eM K cd19 "all_steps") (k19 : eK K f19)
  (a20 : eI K "_law_right" f20) (l20 : eJ K f20 oc20 od20 (cD "_law_right" iS kV20 dc20 pm20 an20 cd20 ct20) sl20) (c20 : eM K cd20 "_law_right") (k20 : eK K f20)
  (a21 : eI K "_law_bent" f21) (l21 : eJ K f21 oc21 od21 (cD "_law_bent" jR kV21 dc21 pm21 an21 cd21 ct21) sl21) (c21 : eM K cd21 "_law_bent") (k21 : eK K f21)
  (a22 : eI K "brought_pairs" f22) (l22 : eJ K f22 oc22 od22 (cD "brought_pairs" dX kV22 dc22 pm22 an22 cd22 ct22) sl22) (c22 : eM K cd22 "brought_pairs") (k22 : eK K f22)
  (a23 : eI K "steps_hold" f23) (l23 : eJ K f23 oc23 od23 (cD "steps_hold" fC kV23 dc23 pm23 an23 cd23 ct23) sl23) (c23 : eM K cd23 "steps_hold") (k23 : eK K f23)
  (a24 : eI K "law" f24) (l24 : eJ K f24 oc24 od24 (cD "law" nv kV24 dc24 pm24 an24 cd24 ct24) sl24) (c24 : eM K cd24 "law") (k24 : eK K f24)
  (z_abs : nsIn K mainGlobals "abs" = some none)
  (z_bool : nsIn K mainGlobals "bool" = some none)
  (z_dict : nsIn K mainGlobals "dict" = some none)
  (z_int : nsIn K mainGlobals "int" = some none)
  (z_isinstance : nsIn K mainGlobals "isinstance" = some none)
  (z_len : nsIn K mainGlobals "len" = some none)
  (z_list : nsIn K mainGlobals "list" = some none)
  (z_max : nsIn K mainGlobals "max" = some none)
  (z_min : nsIn K mainGlobals "min" = some none)
  (z_range : nsIn K mainGlobals "range" = some none)
  (iP : nsIn K mainGlobals "sorted" = some none)
  : ∃ fd : FuncData, (∀ (s : Shared) (v : Value), BindsTo s fd ⟨[v], []⟩ [("_law_script", v)]) /\ ∀ base : Heap, K.In base -> base.Ns mainGlobals mg -> cL l.prog w K mg base dD 7 fa fd ["_law_script"] (dH K 1 jw) := by
 have e := hfa.symm.trans (mg_of X G a24);cases e;have F0 := cC (st := fV) l0 c0 k0;have b0 := F0.binds (ps := ["n"]) fun _ _ _ _ _ _ us hl => by rcases us with _ | ⟨_, _ | ⟨_, us⟩⟩ <;> first | rfl | (simp at hl) | cases hl
 have F1 := cC (st := ie) l1 c1 k1;have b1 := F1.binds (ps := ["one", "other", "known"]) fun _ _ _ _ _ _ us hl => by rcases us with _ | ⟨_, _ | ⟨_, _ | ⟨_, _ | ⟨_, us⟩⟩⟩⟩ <;> first | rfl | (simp at hl) | cases hl
 have F2 := cC (st := ii) l2 c2 k2;have b2 := F2.binds (ps := ["steps", "one", "other", "more"]) fun _ _ _ _ _ _ us hl => by rcases us with _ | ⟨_, _ | ⟨_, _ | ⟨_, _ | ⟨_, _ | ⟨_, us⟩⟩⟩⟩⟩ <;> first | rfl | (simp at hl) | cases hl
 have F3 := cC (st := iU) l3 c3 k3;have b3 := F3.binds (ps := ["_law_cell", "_law_k"]) fun _ _ _ _ _ _ us hl => by rcases us with _ | ⟨_, _ | ⟨_, _ | ⟨_, us⟩⟩⟩ <;> first | rfl | (simp at hl) | cases hl
 have F4 := cC (st := jO) l4 c4 k4;have b4 := F4.binds (ps := ["_law_script", "_law_k"]) fun _ _ _ _ _ _ us hl => by rcases us with _ | ⟨_, _ | ⟨_, _ | ⟨_, us⟩⟩⟩ <;> first | rfl | (simp at hl) | cases hl
 have F5 := cC (st := jP) l5 c5 k5;have b5 := F5.binds (ps := ["_law_i", "_law_j", "_law_g"]) fun _ _ _ _ _ _ us hl => by rcases us with _ | ⟨_, _ | ⟨_, _ | ⟨_, _ | ⟨_, us⟩⟩⟩⟩ <;> first | rfl | (simp at hl) | cases hl
 have F6 := cC (st := iT) l6 c6 k6;have b6 := F6.binds (ps := ["_law_n"]) fun _ _ _ _ _ _ us hl => by rcases us with _ | ⟨_, _ | ⟨_, us⟩⟩ <;> first | rfl | (simp at hl) | cases hl
 have F7 := cC (st := dt) l7 c7 k7;have b7 := F7.binds (ps := ["n", "i", "j"]) fun _ _ _ _ _ _ us hl => by rcases us with _ | ⟨_, _ | ⟨_, _ | ⟨_, _ | ⟨_, us⟩⟩⟩⟩ <;> first | rfl | (simp at hl) | cases hl
 have F8 := cC (st := gF) l8 c8 k8;have b8 := F8.binds (ps := ["i", "j", "k", "g"]) fun _ _ _ _ _ _ us hl => by rcases us with _ | ⟨_, _ | ⟨_, _ | ⟨_, _ | ⟨_, _ | ⟨_, us⟩⟩⟩⟩⟩ <;> first | rfl | (simp at hl) | cases hl
 have F9 := cC (st := jN) l9 c9 k9;have b9 := F9.binds (ps := ["_law_pile_here", "_law_many"]) fun _ _ _ _ _ _ us hl => by rcases us with _ | ⟨_, _ | ⟨_, _ | ⟨_, us⟩⟩⟩ <;> first | rfl | (simp at hl) | cases hl
 have F10 := cC (st := iW) l10 c10 k10;have b10 := F10.binds (ps := ["_law_n"]) fun _ _ _ _ _ _ us hl => by rcases us with _ | ⟨_, _ | ⟨_, us⟩⟩ <;> first | rfl | (simp at hl) | cases hl
 have F11 := cC (st := jM) l11 c11 k11;have b11 := F11.binds (ps := ["n"]) fun _ _ _ _ _ _ us hl => by rcases us with _ | ⟨_, _ | ⟨_, us⟩⟩ <;> first | rfl | (simp at hl) | cases hl
 have F12 := cC (st := dO) l12 c12 k12;have b12 := F12.binds (ps := ["n", "i", "j", "k"]) fun _ _ _ _ _ _ us hl => by rcases us with _ | ⟨_, _ | ⟨_, _ | ⟨_, _ | ⟨_, _ | ⟨_, us⟩⟩⟩⟩⟩ <;> first | rfl | (simp at hl) | cases hl
 have F13 := cC (st := ig) l13 c13 k13;have b13 := F13.binds (ps := ["_law_n", "_law_pairs_here"]) fun _ _ _ _ _ _ us hl => by rcases us with _ | ⟨_, _ | ⟨_, _ | ⟨_, us⟩⟩⟩ <;> first | rfl | (simp at hl) | cases hl
 have F14 := cC (st := iV) l14 c14 k14;have b14 := F14.binds (ps := ["_law_script", "_law_start"]) fun _ _ _ _ _ _ us hl => by rcases us with _ | ⟨_, _ | ⟨_, _ | ⟨_, us⟩⟩⟩ <;> first | rfl | (simp at hl) | cases hl
 have F15 := cC (st := jQ) l15 c15 k15;have b15 := F15.binds (ps := ["_law_n", "_law_pairs_here"]) fun _ _ _ _ _ _ us hl => by rcases us with _ | ⟨_, _ | ⟨_, _ | ⟨_, us⟩⟩⟩ <;> first | rfl | (simp at hl) | cases hl
 have F16 := cC (st := eZ) l16 c16 k16;have b16 := F16.binds (ps := ["_law_found", "_law_pile_here", "_law_pair_here"]) fun _ _ _ _ _ _ us hl => by rcases us with _ | ⟨_, _ | ⟨_, _ | ⟨_, _ | ⟨_, us⟩⟩⟩⟩ <;> first | rfl | (simp at hl) | cases hl
 have F17 := cC (st := eY) l17 c17 k17;have b17 := F17.binds (ps := ["_law_steps", "_law_pile_here", "_law_drawn_here"]) fun _ _ _ _ _ _ us hl => by rcases us with _ | ⟨_, _ | ⟨_, _ | ⟨_, _ | ⟨_, us⟩⟩⟩⟩ <;> first | rfl | (simp at hl) | cases hl
 have F18 := cC (st := fU) l18 c18 k18;have b18 := F18.binds (ps := ["n"]) fun _ _ _ _ _ _ us hl => by rcases us with _ | ⟨_, _ | ⟨_, us⟩⟩ <;> first | rfl | (simp at hl) | cases hl
 have F19 := cC (st := fT) l19 c19 k19;have b19 := F19.binds (ps := ["n"]) fun _ _ _ _ _ _ us hl => by rcases us with _ | ⟨_, _ | ⟨_, us⟩⟩ <;> first | rfl | (simp at hl) | cases hl
 have F20 := cC (st := iS) l20 c20 k20;have b20 := F20.binds (ps := ["_law_n", "_law_pairs_here", "_law_found", "_law_steps"]) fun _ _ _ _ _ _ us hl => by rcases us with _ | ⟨_, _ | ⟨_, _ | ⟨_, _ | ⟨_, _ | ⟨_, us⟩⟩⟩⟩⟩ <;> first | rfl | (simp at hl) | cases hl
 have F21 := cC (st := jR) l21 c21 k21;have b21 := F21.binds (ps := ["_law_n", "_law_pairs_here", "_law_pile_here"]) fun _ _ _ _ _ _ us hl => by rcases us with _ | ⟨_, _ | ⟨_, _ | ⟨_, _ | ⟨_, us⟩⟩⟩⟩ <;> first | rfl | (simp at hl) | cases hl
 have F22 := cC (st := dX) l22 c22 k22;have b22 := F22.binds (ps := ["n", "pairs"]) fun _ _ _ _ _ _ us hl => by rcases us with _ | ⟨_, _ | ⟨_, _ | ⟨_, us⟩⟩⟩ <;> first | rfl | (simp at hl) | cases hl
 have F23 := cC (st := fC) l23 c23 k23;have b23 := F23.binds (ps := ["n", "pairs", "found", "steps"]) fun _ _ _ _ _ _ us hl => by rcases us with _ | ⟨_, _ | ⟨_, _ | ⟨_, _ | ⟨_, _ | ⟨_, us⟩⟩⟩⟩⟩ <;> first | rfl | (simp at hl) | cases hl
 have F24 := cC (st := nv) l24 c24 k24
 let t : AS K mg := ⟨f0, cD "all_names" fV kV0 dc0 pm0 an0 cd0 ct0, f1, cD "pair_of" ie kV1 dc1 pm1 an1 cd1 ct1, f2, cD "is_step" ii kV2 dc2 pm2 an2 cd2 ct2, f3, cD "_law_mixed" iU kV3 dc3 pm3 an3 cd3 ct3, f4, cD "_law_pile" jO kV4 dc4 pm4 an4 cd4 ct4, f5, cD "_law_pair" jP kV5 dc5 pm5 an5 cd5 ct5, f6, cD "_law_pairs" iT kV6 dc6 pm6 an6 cd6 ct6, f7, cD "pairs_with_known" dt kV7 dc7 pm7 an7 cd7 ct7, f8, cD "steps_of" gF kV8 dc8 pm8 an8 cd8 ct8, f9, cD "_law_take" jN kV9 dc9 pm9 an9 cd9 ct9, f10, cD "_law_bring" iW kV10 dc10 pm10 an10 cd10 ct10, f11, cD "rules" jM kV11 dc11 pm11 an11 cd11 ct11, f12, cD "steps_of_names" dO kV12 dc12 pm12 an12 cd12 ct12, f13, cD "_law_closed" ig kV13 dc13 pm13 an13 cd13 ct13, f14, cD "_law_drawn" iV kV14 dc14 pm14 an14 cd14 ct14, f15, cD "_law_made" jQ kV15 dc15 pm15 an15 cd15 ct15, f16, cD "_law_bent_found" eZ kV16 dc16 pm16 an16 cd16 ct16, f17, cD "_law_bent_steps" eY kV17 dc17 pm17 an17 cd17 ct17, f18, cD "all_pairs" fU kV18 dc18 pm18 an18 cd18 ct18, f19, cD "all_steps" fT kV19 dc19 pm19 an19 cd19 ct19, f20, cD "_law_right" iS kV20 dc20 pm20 an20 cd20 ct20, f21, cD "_law_bent" jR kV21 dc21 pm21 an21 cd21 ct21, f22, cD "brought_pairs" dX kV22 dc22 pm22 an22 cd22 ct22, f23, cD "steps_hold" fC kV23 dc23 pm23 an23 cd23 ct23⟩
 have T : Tx t := ⟨F0, mg_of X G a0, b0, F1, mg_of X G a1, b1, F2, mg_of X G a2, b2, F3, mg_of X G a3, b3, F4, mg_of X G a4, b4, F5, mg_of X G a5, b5, F6, mg_of X G a6, b6, F7, mg_of X G a7, b7, F8, mg_of X G a8, b8, F9, mg_of X G a9, b9, F10, mg_of X G a10, b10, F11, mg_of X G a11, b11, F12, mg_of X G a12, b12, F13, mg_of X G a13, b13, F14, mg_of X G a14, b14, F15, mg_of X G a15, b15, F16, mg_of X G a16, b16, F17, mg_of X G a17, b17, F18, mg_of X G a18, b18, F19, mg_of X G a19, b19, F20, mg_of X G a20, b20, F21, mg_of X G a21, b21, F22, mg_of X G a22, b22, F23, mg_of X G a23, b23, mg_none_of X G z_abs, mg_none_of X G z_bool, mg_none_of X G z_dict, mg_none_of X G z_int, mg_none_of X G z_isinstance, mg_none_of X G z_len, mg_none_of X G z_list, mg_none_of X G z_max, mg_none_of X G z_min, mg_none_of X G z_range, mg_none_of X G iP⟩;exact ⟨cD "law" nv kV24 dc24 pm24 an24 cd24 ct24, fun s v => .of_eq rfl, fun base _ _ => Ah T F24⟩
theorem B3 {l : PySem.W.OpenLaw} {q : Program} {loose : List Str} {XP : (Str -> Option Value) -> Heap -> Prop} {YP : World -> Heap -> Prop} {d : DefRec} {K : Params -> PySem.W.Frag} (hn : l.most = some 63) (hdf : d.params.defaults = [])
  (hY : ∀ (w : World) (h : Heap), YP w h -> (K w.params).In h) (hg : ∀ ns : List Int, ns.length <= 63 -> ∃ d, jw [.lst false (ns.map D.int)] = some (.bl true, [d]))
  (F : ∀ (w : World) (mg : Str -> Option Value) (fa : Addr) (h : Heap), (K w.params).In h -> h.Ns mainGlobals mg -> mg d.name = some (.ref fa) ->
   ∃ fd : FuncData, (∀ (s : Shared) (u : Value), BindsTo s fd ⟨[u], []⟩ [("_law_script", u)]) /\ ∀ base : Heap, (K w.params).In base -> base.Ns mainGlobals mg -> cL l.prog w (K w.params) mg base dD 7 fa fd ["_law_script"] (dH (K w.params) 1 jw)) :
  PySem.W.WalkO q loose XP YP l.row.toRowW d [] (fun f vs => PySem.call f vs) :=
 L2.walk_of (n := 63) (k := 7) (x := "_law_script") (CX := fun _ => dD) (sp := fun w => dH (K w.params) 1 jw) hn dC hdf ⟨rfl, by decide, by decide, rfl⟩ hY F (fun _ _ a ns hl _ hS => Aq (hg ns hl) hS) fun _ _ _ _ _ z => z
end LW
namespace LW
open PySem L2 DD TT
structure dN where
 yscript : List Int
 yk : Int
 ycell : Int
noncomputable def o4 : {f : ((List Int) × Int × Unit) -> Option ((List Int) × ((List Int) × Int × Unit)) // JF iN f (Pc (rM rI) (Pc rI Pn)) (rL rI) (Pc (rM rI) (Pc rI Pn))} := ⟨_, by
 exact cV (S := dN) (N := 3) (W := [2, 2]) (c := tf) (Zn := []) (ro := (rL rI)) (Zp := [some ⟨dN.yscript, (rM rI)⟩, some ⟨dN.yk, rI⟩]) (Zr := [some ⟨dN.yscript, (rM rI)⟩, some ⟨dN.yk, rI⟩, none]) (init := (fun p => (⟨p.1, p.2.1, 0⟩ : dN))) (aA (get := dN.yscript) dC (fun _ => rfl) fun _ => (aA (get := dN.yk) dC (fun _ => rfl) fun _ => bZ))
  (ap (bb 2 (get := dN.ycell) (put := fun s v => {s with ycell := v}) (ah (aC 0)))
  (ap (cN (Z' := [some ⟨dN.yscript, (rM rI)⟩, some ⟨dN.yk, rI⟩, some ⟨dN.ycell, rI⟩]) (bK (cB jq (ah (af 1 rfl)) (ah (dZ il (af 0 rfl))))) (bb 2 (get := dN.ycell) (put := fun s v => {s with ycell := v}) (ah (aw gM (af 0 rfl) (af 1 rfl)))) bW)
  (bz (cQ (r := rI) (bN (ah (aw gL (af 2 rfl) (dZ yU (aw jq (dZ AC (af 2 rfl)) (aw db (aC 10) (aC 18)))))) (bN (ah (af 2 rfl)) (bN (ah (aw gL (aC 97) (af 1 rfl))) cP))))))) (au dC rfl (au dC rfl bP))⟩
noncomputable def n8 := o4.1
theorem oH : JF iN n8 (Pc (rM rI) (Pc rI Pn)) (rL rI) (Pc (rM rI) (Pc rI Pn)) := o4.2
structure eh where
 ycell : Int
 yk : Int
 ynumber : Int
noncomputable def ni : {f : (Int × Int × Unit) -> Option (Int × (Int × Int × Unit)) // JF kw f (Pc rI (Pc rI Pn)) rI (Pc rI (Pc rI Pn))} := ⟨_, by
 exact cV (S := eh) (N := 3) (W := [2, 2]) (c := rC) (Zn := []) (ro := rI) (Zp := [some ⟨eh.ycell, rI⟩, some ⟨eh.yk, rI⟩]) (Zr := [some ⟨eh.ycell, rI⟩, some ⟨eh.yk, rI⟩, none]) (init := (fun p => (⟨p.1, p.2.1, 0⟩ : eh))) (aA (get := eh.ycell) dC (fun _ => rfl) fun _ => (aA (get := eh.yk) dC (fun _ => rfl) fun _ => bZ))
  (ap (bb 2 (get := eh.ynumber) (put := fun s v => {s with ynumber := v}) (ah (aw db (aw cw (aw cw (aw gL (aw db (af 0 rfl) (aC 2147483647)) (aC 48271)) (aw gL (af 1 rfl) (aC 69621))) (aC 11)) (aC 2147483647))))
  (ap (bb 2 (get := eh.ynumber) (put := fun s v => {s with ynumber := v}) (ah (aw db (aw gL (af 2 rfl) (af 2 rfl)) (aC 2147483629))))
  (bz (ah (aw db (aw gL (af 2 rfl) (af 2 rfl)) (aC 2147483587)))))) (au dC rfl (au dC rfl bP))⟩
noncomputable def mD := ni.1
theorem wL : JF kw mD (Pc rI (Pc rI Pn)) rI (Pc rI (Pc rI Pn)) := ni.2
structure dM where
 ypile_here : List Int
 ymany : Int
 ydigit : Int
noncomputable def oZ : {f : ((List Int) × Int × Unit) -> Option (Int × ((List Int) × Int × Unit)) // JF dz f (Pc (rL rI) (Pc rI Pn)) rI (Pc (rL rI) (Pc rI Pn))} := ⟨_, by
 exact cV (S := dM) (N := 3) (W := [2]) (c := sZ) (Zn := []) (ro := rI) (Zp := [some ⟨dM.ypile_here, (rL rI)⟩, some ⟨dM.ymany, rI⟩]) (Zr := [some ⟨dM.ypile_here, (rL rI)⟩, some ⟨dM.ymany, rI⟩, none]) (init := (fun p => (⟨p.1, p.2.1, 0⟩ : dM))) (aA (get := dM.ypile_here) dC (fun _ => rfl) fun _ => (aA (get := dM.ymany) dC (fun _ => rfl) fun _ => bZ))
  (ap (cN (Z' := [some ⟨dM.ypile_here, (rL rI)⟩, some ⟨dM.ymany, rI⟩, none]) (bK (ah (aw uk (aw gM (af 0 rfl) (aC 0)) (vy (kl (aC 0) (kl (i4 (aC 1)) sN)))))) (ap (lM 0 (get := dM.ypile_here) (put := fun s v => {s with ypile_here := v}) (ah (aw cw (aw gM (af 0 rfl) (aC 2)) (aC 1))) (aC 2) rfl)
  (bz (cB db (aO wL (cj (ah (aw gM (af 0 rfl) (aC 1))) (cj (ah (aw gM (af 0 rfl) (aC 2))) aR)) (cg (cg aQ)) (cf (cf aP))) (ah (af 1 rfl))))) bW)
  (ap (bb 2 (get := dM.ydigit) (put := fun s v => {s with ydigit := v}) (ah (aw db (aw gM (af 0 rfl) (aC 0)) (af 1 rfl))))
  (ap (lM 0 (get := dM.ypile_here) (put := fun s v => {s with ypile_here := v}) (ah (aw db (aw gM (af 0 rfl) (aC 0)) (af 1 rfl))) (aC 0) rfl)
  (bz (ah (af 2 rfl)))))) (au dC rfl (au dC rfl bP))⟩
noncomputable def n6 := oZ.1
theorem eD : JF dz n6 (Pc (rL rI) (Pc rI Pn)) rI (Pc (rL rI) (Pc rI Pn)) := oZ.2
structure eU where
 yn : Int
 yfound : List (Int × Int × Int)
 yi : Int
 yj : Int
noncomputable def rW : {f : (Int × Unit) -> Option ((List (Int × Int × Int)) × (Int × Unit)) // JF hZ f (Pc rI Pn) (rL (aa rI rI rI)) (Pc rI Pn)} := ⟨_, by
 exact cV (S := eU) (N := 4) (W := [1, 2, 3, 1]) (c := rp) (Zn := []) (ro := (rL (aa rI rI rI))) (Zp := [some ⟨eU.yn, rI⟩]) (Zr := [some ⟨eU.yn, rI⟩, none, none, none]) (init := (fun p => (⟨p.1, [], 0, 0⟩ : eU))) (aA (get := eU.yn) dC (fun _ => rfl) fun _ => bZ)
  (ap (bb 1 (get := eU.yfound) (put := fun s v => {s with yfound := v}) (cQ (cP (r := (aa rI rI rI)))))
  (ap (cS (fK (ah (af 0 rfl))) Le.refl (bM 2 (get := eU.yi) (put := fun s v => {s with yi := v})) (cS (ul (ah (aw cw (af 2 rfl) (aC 1))) (ah (af 0 rfl))) Le.refl (bM 3 (get := eU.yj) (put := fun s v => {s with yj := v})) (bb 1 (get := eU.yfound) (put := fun s v => {s with yfound := v}) (gb (dQ 1 rfl) (iK (fK (ah (aw db (aC 1) (af 0 rfl)))) Le.refl (km 4 rfl) (fun x1 => (e8 (bK (cB dn (ah (aw cw (aw db (af 4 rfl) (af 2 rfl)) (aC 1))) (ah (aC 0)))) (bK (cB dn (ah (aw cw (aw db (af 4 rfl) (af 3 rfl)) (aC 1))) (ah (aC 0)))))) (fun x1 => (cx (ah (af 2 rfl)) (ah (af 3 rfl)) (ah (af 4 rfl)))))))))
  (bz (dQ 1 rfl)))) (au dC rfl bP)⟩
noncomputable def mC := rW.1
theorem mY : JF hZ mC (Pc rI Pn) (rL (aa rI rI rI)) (Pc rI Pn) := rW.2
structure eF where
 yi : Int
 yj : Int
 yg : Int
noncomputable def tD : {f : (Int × Int × Int × Unit) -> Option ((Int × Int × Int) × (Int × Int × Int × Unit)) // JF dL f (Pc rI (Pc rI (Pc rI Pn))) (aa rI rI rI) (Pc rI (Pc rI (Pc rI Pn)))} := ⟨_, by
 exact cV (S := eF) (N := 3) (W := []) (c := tj) (Zn := []) (ro := (aa rI rI rI)) (Zp := [some ⟨eF.yi, rI⟩, some ⟨eF.yj, rI⟩, some ⟨eF.yg, rI⟩]) (Zr := [some ⟨eF.yi, rI⟩, some ⟨eF.yj, rI⟩, some ⟨eF.yg, rI⟩]) (init := (fun p => (⟨p.1, p.2.1, p.2.2.1⟩ : eF))) (aA (get := eF.yi) dC (fun _ => rfl) fun _ => (aA (get := eF.yj) dC (fun _ => rfl) fun _ => (aA (get := eF.yg) dC (fun _ => rfl) fun _ => bZ)))
  (bz (cx (ah (nC vz (af 0 rfl) (af 1 rfl))) (ah (nC vA (af 0 rfl) (af 1 rfl))) (ah (af 2 rfl)))) (au dC rfl (au dC rfl (au dC rfl bP)))⟩
noncomputable def ya := tD.1
theorem fo : JF dL ya (Pc rI (Pc rI (Pc rI Pn))) (aa rI rI rI) (Pc rI (Pc rI (Pc rI Pn))) := tD.2
structure cv where
 yn : Int
 yfound : List ((Int × Int × Int) × (Int × Int × Int) × (Int × Int × Int))
 yi : Int
 yj : Int
 yg : Int
 yk : Int
noncomputable def rX : {f : (Int × Unit) -> Option ((List ((Int × Int × Int) × (Int × Int × Int) × (Int × Int × Int))) × (Int × Unit)) // JF gy f (Pc rI Pn) (rL (aa (aa rI rI rI) (aa rI rI rI) (aa rI rI rI))) (Pc rI Pn)} := ⟨_, by
 exact cV (S := cv) (N := 6) (W := [1, 2, 3, 4, 5]) (c := rF) (Zn := []) (ro := (rL (aa (aa rI rI rI) (aa rI rI rI) (aa rI rI rI)))) (Zp := [some ⟨cv.yn, rI⟩]) (Zr := [some ⟨cv.yn, rI⟩, none, none, none, none, none]) (init := (fun p => (⟨p.1, [], 0, 0, 0, 0⟩ : cv))) (aA (get := cv.yn) dC (fun _ => rfl) fun _ => bZ)
  (ap (bb 1 (get := cv.yfound) (put := fun s v => {s with yfound := v}) (cQ (cP (r := (aa (aa rI rI rI) (aa rI rI rI) (aa rI rI rI))))))
  (ap (cS (d6 (aO mY (ao 0 rfl aR) (aK 0 rfl aQ) (aJ 0 aP))) Le.refl (jr (bM 2 (get := cv.yi) (put := fun s v => {s with yi := v})) (bM 3 (get := cv.yj) (put := fun s v => {s with yj := v})) (bM 4 (get := cv.yg) (put := fun s v => {s with yg := v}))) (cS (fK (ah (af 0 rfl))) Le.refl (bM 5 (get := cv.yk) (put := fun s v => {s with yk := v})) (cN (Z' := [some ⟨cv.yn, rI⟩, some ⟨cv.yfound, (rL (aa (aa rI rI rI) (aa rI rI rI) (aa rI rI rI)))⟩, some ⟨cv.yi, rI⟩, some ⟨cv.yj, rI⟩, some ⟨cv.yg, rI⟩, some ⟨cv.yk, rI⟩]) (e8 (bK (ah (aw qP (af 5 rfl) (vy (kl (af 2 rfl) (kl (af 3 rfl) sN)))))) (bK (cB dn (ah (aw cw (aw db (af 4 rfl) (af 5 rfl)) (aC 1))) (ah (aC 0))))) (ap (fm (hW 1 (get := cv.yfound) (put := fun s v => {s with yfound := v}) (cx (aO fo (ao 2 rfl (ao 5 rfl (ao 4 rfl aR))) (aK 2 rfl (aK 5 rfl (aK 4 rfl aQ))) (aJ 2 (aJ 5 (aJ 4 aP)))) (aO fo (ao 2 rfl (ao 3 rfl (cj (ah (aw cw (af 4 rfl) (aw db (aC 1) (af 5 rfl)))) aR))) (aK 2 rfl (aK 3 rfl (cg aQ))) (aJ 2 (aJ 3 (cf aP)))) (cx (ah (af 2 rfl)) (ah (af 3 rfl)) (ah (af 4 rfl)))) rfl rfl))
  (ap (fm (hW 1 (get := cv.yfound) (put := fun s v => {s with yfound := v}) (cx (aO fo (ao 2 rfl (ao 5 rfl (ao 4 rfl aR))) (aK 2 rfl (aK 5 rfl (aK 4 rfl aQ))) (aJ 2 (aJ 5 (aJ 4 aP)))) (aO fo (ao 2 rfl (ao 3 rfl (cj (ah (aw cw (af 4 rfl) (aw db (aC 1) (af 5 rfl)))) aR))) (aK 2 rfl (aK 3 rfl (cg aQ))) (aJ 2 (aJ 3 (cf aP)))) (aO fo (ao 2 rfl (ao 5 rfl (cj (ah (aw cw (af 4 rfl) (aw db (aC 1) (af 3 rfl)))) aR))) (aK 2 rfl (aK 5 rfl (cg aQ))) (aJ 2 (aJ 5 (cf aP))))) rfl rfl))
  (ap (fm (hW 1 (get := cv.yfound) (put := fun s v => {s with yfound := v}) (cx (aO fo (ao 3 rfl (ao 5 rfl (ao 4 rfl aR))) (aK 3 rfl (aK 5 rfl (aK 4 rfl aQ))) (aJ 3 (aJ 5 (aJ 4 aP)))) (aO fo (ao 2 rfl (ao 3 rfl (cj (ah (aw cw (af 4 rfl) (aw db (aC 1) (af 5 rfl)))) aR))) (aK 2 rfl (aK 3 rfl (cg aQ))) (aJ 2 (aJ 3 (cf aP)))) (cx (ah (af 2 rfl)) (ah (af 3 rfl)) (ah (af 4 rfl)))) rfl rfl))
  (fm (hW 1 (get := cv.yfound) (put := fun s v => {s with yfound := v}) (cx (aO fo (ao 3 rfl (ao 5 rfl (ao 4 rfl aR))) (aK 3 rfl (aK 5 rfl (aK 4 rfl aQ))) (aJ 3 (aJ 5 (aJ 4 aP)))) (aO fo (ao 2 rfl (ao 3 rfl (cj (ah (aw cw (af 4 rfl) (aw db (aC 1) (af 5 rfl)))) aR))) (aK 2 rfl (aK 3 rfl (cg aQ))) (aJ 2 (aJ 3 (cf aP)))) (aO fo (ao 3 rfl (ao 5 rfl (cj (ah (aw cw (af 4 rfl) (aw db (aC 1) (af 2 rfl)))) aR))) (aK 3 rfl (aK 5 rfl (cg aQ))) (aJ 3 (aJ 5 (cf aP))))) rfl rfl))))) bW)))
  (bz (dQ 1 rfl)))) (au dC rfl bP)⟩
noncomputable def iR := rX.1
theorem kn : JF gy iR (Pc rI Pn) (rL (aa (aa rI rI rI) (aa rI rI rI) (aa rI rI rI))) (Pc rI Pn) := rX.2
structure aF where
 yscript : List Int
 ystart : Int
 yn : Int
 yevery : List (Int × Int × Int)
 yrows : List ((Int × Int × Int) × (Int × Int × Int) × (Int × Int × Int))
 yfound : List (Int × Int × Int)
 yk : Int
 ypile_here : List Int
 yway : Int
noncomputable def nj : {f : ((List Int) × Int × Unit) -> Option ((Int × (List (Int × Int × Int))) × ((List Int) × Int × Unit)) // JF kx f (Pc (rM rI) (Pc rI Pn)) (gX rI (rL (aa rI rI rI))) (Pc (rM rI) (Pc rI Pn))} := ⟨_, by
 exact cV (S := aF) (N := 9) (W := [2, 3, 4, 5, 6, 7, 8, 5]) (c := rD) (Zn := []) (ro := (gX rI (rL (aa rI rI rI)))) (Zp := [some ⟨aF.yscript, (rM rI)⟩, some ⟨aF.ystart, rI⟩]) (Zr := [some ⟨aF.yscript, (rM rI)⟩, some ⟨aF.ystart, rI⟩, none, none, none, none, none, none, none]) (init := (fun p => (⟨p.1, p.2.1, 0, [], [], [], 0, [], 0⟩ : aF))) (aA (get := aF.yscript) dC (fun _ => rfl) fun _ => (aA (get := aF.ystart) dC (fun _ => rfl) fun _ => bZ))
  (ap (bb 2 (get := aF.yn) (put := fun s v => {s with yn := v}) (d7 (cQ (r := rI) (bN (ah (aC 4)) (bN (ah (aC 3)) (bN (ah (aC 4)) (bN (ah (aC 2)) (bN (ah (aC 4)) (bN (ah (aC 1)) cP))))))) (aO eD (cj (aO oH (ao 0 rfl (ao 1 rfl aR)) (bU 0 rfl (aK 1 rfl aQ)) (bT 0 (get := aF.yscript) (put := fun s v => {s with yscript := v}) (h := aJ 1 aP))) (cj (ah (aC 6)) aR)) (cg (cg aQ)) (cf (cf aP)))))
  (ap (bb 3 (get := aF.yevery) (put := fun s v => {s with yevery := v}) (aO mY (ao 2 rfl aR) (aK 2 rfl aQ) (aJ 2 aP)))
  (ap (bb 4 (get := aF.yrows) (put := fun s v => {s with yrows := v}) (aO kn (ao 2 rfl aR) (aK 2 rfl aQ) (aJ 2 aP)))
  (ap (bb 5 (get := aF.yfound) (put := fun s v => {s with yfound := v}) (cQ (cP (r := (aa rI rI rI)))))
  (ap (cS (Zh := [some ⟨aF.yscript, (rM rI)⟩, some ⟨aF.ystart, rI⟩, some ⟨aF.yn, rI⟩, some ⟨aF.yevery, (rM (aa rI rI rI))⟩, some ⟨aF.yrows, (rM (aa (aa rI rI rI) (aa rI rI rI) (aa rI rI rI)))⟩, some ⟨aF.yfound, (rL (aa rI rI rI))⟩, none, none, none]) (ul (ah (aC 1)) (ah (aC 7))) (by repeat (first | exact Le.nil | refine Le.som inferInstance ?_ | refine Le.non ?_)) (bM 6 (get := aF.yk) (put := fun s v => {s with yk := v})) (ap (bb 7 (get := aF.ypile_here) (put := fun s v => {s with ypile_here := v}) (aO oH (ao 0 rfl (cj (ah (aw cw (af 1 rfl) (af 6 rfl))) aR)) (bU 0 rfl (cg aQ)) (bT 0 (get := aF.yscript) (put := fun s v => {s with yscript := v}) (h := cf aP))))
  (ap (bb 8 (get := aF.yway) (put := fun s v => {s with yway := v}) (aO eD (ao 7 rfl (cj (ah (aC 4)) aR)) (bU 7 rfl (cg aQ)) (bT 7 (get := aF.ypile_here) (put := fun s v => {s with ypile_here := v}) (h := cf aP))))
  (cN (Z' := [some ⟨aF.yscript, (rM rI)⟩, some ⟨aF.ystart, rI⟩, some ⟨aF.yn, rI⟩, some ⟨aF.yevery, (rM (aa rI rI rI))⟩, some ⟨aF.yrows, (rM (aa (aa rI rI rI) (aa rI rI rI) (aa rI rI rI)))⟩, some ⟨aF.yfound, (rL (aa rI rI rI))⟩, some ⟨aF.yk, rI⟩, some ⟨aF.ypile_here, (rL rI)⟩, some ⟨aF.yway, rI⟩]) (e8 (bK (cB dn (ah (af 8 rfl)) (ah (aC 0)))) (bK (ah (aw iJ (af 4 rfl) (qa (r := (aa (aa rI rI rI) (aa rI rI rI) (aa rI rI rI)))))))) (bb 5 (get := aF.yfound) (put := fun s v => {s with yfound := v}) (gb (dQ 5 rfl) (wJ (d7 (aM 4 rfl) (aO eD (ao 7 rfl (cj (ah (dZ il (af 4 rfl))) aR)) (bU 7 rfl (cg aQ)) (bT 7 (get := aF.ypile_here) (put := fun s v => {s with ypile_here := v}) (h := cf aP))))))) (cN (Z' := [some ⟨aF.yscript, (rM rI)⟩, some ⟨aF.ystart, rI⟩, some ⟨aF.yn, rI⟩, some ⟨aF.yevery, (rM (aa rI rI rI))⟩, some ⟨aF.yrows, (rM (aa (aa rI rI rI) (aa rI rI rI) (aa rI rI rI)))⟩, some ⟨aF.yfound, (rL (aa rI rI rI))⟩, some ⟨aF.yk, rI⟩, some ⟨aF.ypile_here, (rL rI)⟩, some ⟨aF.yway, rI⟩]) (e8 (bK (cB jq (ah (af 8 rfl)) (ah (aC 3)))) (bK (ah (aw iJ (af 3 rfl) (qa (r := (aa rI rI rI))))))) (fm (hW 5 (get := aF.yfound) (put := fun s v => {s with yfound := v}) (d7 (aM 3 rfl) (aO eD (ao 7 rfl (cj (ah (dZ il (af 3 rfl))) aR)) (bU 7 rfl (cg aQ)) (bT 7 (get := aF.ypile_here) (put := fun s v => {s with ypile_here := v}) (h := cf aP)))) rfl rfl)) bW)))))
  (bz (lN (ah (af 2 rfl)) (dQ 5 rfl)))))))) (au dC rfl (au dC rfl bP))⟩
noncomputable def mE := nj.1
theorem wM : JF kx mE (Pc (rM rI) (Pc rI Pn)) (gX rI (rL (aa rI rI rI))) (Pc (rM rI) (Pc rI Pn)) := nj.2
structure aV where
 yn : Int
 ypairs_here : List (Int × Int × Int)
 ythere : List (Int × Int × Int)
 ypair_here : Int × Int × Int
 ysteps : List ((Int × Int × Int) × (Int × Int × Int) × (Int × Int × Int))
 yrows : List ((Int × Int × Int) × (Int × Int × Int) × (Int × Int × Int))
 ymany : Int
 yfirst : Int × Int × Int
 ysecond : Int × Int × Int
 ymore : Int × Int × Int
noncomputable def o5 : {f : (Int × (List (Int × Int × Int)) × Unit) -> Option (((List (Int × Int × Int)) × (List ((Int × Int × Int) × (Int × Int × Int) × (Int × Int × Int)))) × (Int × (List (Int × Int × Int)) × Unit)) // JF lP f (Pc rI (Pc (rM (aa rI rI rI)) Pn)) (gX (rL (aa rI rI rI)) (rL (aa (aa rI rI rI) (aa rI rI rI) (aa rI rI rI)))) (Pc rI (Pc (rM (aa rI rI rI)) Pn))} := ⟨_, by
 exact cV (S := aV) (N := 10) (W := [2, 3, 4, 5, 6, 6, 7, 8, 9]) (c := tm) (Zn := []) (ro := (gX (rL (aa rI rI rI)) (rL (aa (aa rI rI rI) (aa rI rI rI) (aa rI rI rI))))) (Zp := [some ⟨aV.yn, rI⟩, some ⟨aV.ypairs_here, (rM (aa rI rI rI))⟩]) (Zr := [some ⟨aV.yn, rI⟩, some ⟨aV.ypairs_here, (rM (aa rI rI rI))⟩, none, none, none, none, none, none, none, none]) (init := (fun p => (⟨p.1, p.2.1, [], (0, 0, 0), [], [], 0, (0, 0, 0), (0, 0, 0), (0, 0, 0)⟩ : aV))) (aA (get := aV.yn) dC (fun _ => rfl) fun _ => (aA (get := aV.ypairs_here) dC (fun _ => rfl) fun _ => bZ))
  (ap (bb 2 (get := aV.ythere) (put := fun s v => {s with ythere := v}) oF)
  (ap (cS (d6 (aM 1 rfl)) Le.refl (bM 3 (get := aV.ypair_here) (put := fun s v => {s with ypair_here := v})) (gB 2 (get := aV.ythere) (put := fun s v => {s with ythere := v}) (af 3 rfl) rfl))
  (ap (bb 4 (get := aV.ysteps) (put := fun s v => {s with ysteps := v}) (cQ (cP (r := (aa (aa rI rI rI) (aa rI rI rI) (aa rI rI rI))))))
  (ap (bb 5 (get := aV.yrows) (put := fun s v => {s with yrows := v}) (aO kn (ao 0 rfl aR) (aK 0 rfl aQ) (aJ 0 aP)))
  (ap (bb 6 (get := aV.ymany) (put := fun s v => {s with ymany := v}) (ah (i4 (aC 1))))
  (ap (mT (Zh := [some ⟨aV.yn, rI⟩, some ⟨aV.ypairs_here, (rM (aa rI rI rI))⟩, some ⟨aV.ythere, gY⟩, none, some ⟨aV.ysteps, (rL (aa (aa rI rI rI) (aa rI rI rI) (aa rI rI rI)))⟩, some ⟨aV.yrows, (rM (aa (aa rI rI rI) (aa rI rI rI) (aa rI rI rI)))⟩, some ⟨aV.ymany, rI⟩, none, none, none]) (by repeat (first | exact Le.nil | refine Le.som inferInstance ?_ | refine Le.non ?_)) (bK (cB jq (ah (af 6 rfl)) (ah (dZ hX (af 2 rfl))))) (ap (bb 6 (get := aV.ymany) (put := fun s v => {s with ymany := v}) (ah (dZ hX (af 2 rfl))))
  (cS (d6 (aM 5 rfl)) Le.refl (jr (bM 7 (get := aV.yfirst) (put := fun s v => {s with yfirst := v})) (bM 8 (get := aV.ysecond) (put := fun s v => {s with ysecond := v})) (bM 9 (get := aV.ymore) (put := fun s v => {s with ymore := v}))) (cN (Z' := [some ⟨aV.yn, rI⟩, some ⟨aV.ypairs_here, (rM (aa rI rI rI))⟩, some ⟨aV.ythere, gY⟩, none, some ⟨aV.ysteps, (rL (aa (aa rI rI rI) (aa rI rI rI) (aa rI rI rI)))⟩, some ⟨aV.yrows, (rM (aa (aa rI rI rI) (aa rI rI rI) (aa rI rI rI)))⟩, some ⟨aV.ymany, rI⟩, some ⟨aV.yfirst, (aa rI rI rI)⟩, some ⟨aV.ysecond, (aa rI rI rI)⟩, some ⟨aV.ymore, (aa rI rI rI)⟩]) (e8 (bK (ah (aw gN (af 7 rfl) (af 2 rfl)))) (e8 (bK (ah (aw gN (af 8 rfl) (af 2 rfl)))) (bK (ah (aw iM (af 9 rfl) (af 2 rfl)))))) (ap (gB 2 (get := aV.ythere) (put := fun s v => {s with ythere := v}) (af 9 rfl) rfl)
  (fm (hW 4 (get := aV.ysteps) (put := fun s v => {s with ysteps := v}) (cx (aM 7 rfl) (aM 8 rfl) (aM 9 rfl)) rfl rfl))) bW))))
  (bz (lN (mV (af 2 rfl)) (dQ 4 rfl))))))))) (au dC rfl (au dC rfl bP))⟩
noncomputable def n9 := o5.1
theorem yW : JF lP n9 (Pc rI (Pc (rM (aa rI rI rI)) Pn)) (gX (rL (aa rI rI rI)) (rL (aa (aa rI rI rI) (aa rI rI rI) (aa rI rI rI)))) (Pc rI (Pc (rM (aa rI rI rI)) Pn)) := o5.2
structure aI where
 yfound : List (Int × Int × Int)
 ypile_here : List Int
 ypair_here : Int × Int × Int
 yway : Int
 yat : Int
noncomputable def iE : {f : ((List (Int × Int × Int)) × (List Int) × (Int × Int × Int) × Unit) -> Option ((List (Int × Int × Int)) × ((List (Int × Int × Int)) × (List Int) × (Int × Int × Int) × Unit)) // JF gv f (Pc (rL (aa rI rI rI)) (Pc (rL rI) (Pc (aa rI rI rI) Pn))) (rL (aa rI rI rI)) (Pc (rM (aa rI rI rI)) (Pc (rL rI) (Pc (aa rI rI rI) Pn)))} := ⟨_, by
 exact cV (S := aI) (N := 5) (W := [3, 4]) (c := kF) (Zn := []) (ro := (rL (aa rI rI rI))) (Zp := [some ⟨aI.yfound, (rL (aa rI rI rI))⟩, some ⟨aI.ypile_here, (rL rI)⟩, some ⟨aI.ypair_here, (aa rI rI rI)⟩]) (Zr := [some ⟨aI.yfound, (rM (aa rI rI rI))⟩, some ⟨aI.ypile_here, (rL rI)⟩, some ⟨aI.ypair_here, (aa rI rI rI)⟩, none, none]) (init := (fun p => (⟨p.1, p.2.1, p.2.2.1, 0, 0⟩ : aI))) (aA (get := aI.yfound) dC (fun _ => rfl) fun _ => (aA (get := aI.ypile_here) dC (fun _ => rfl) fun _ => (aA (get := aI.ypair_here) dC (fun _ => rfl) fun _ => bZ)))
  (ap (bb 3 (get := aI.yway) (put := fun s v => {s with yway := v}) (aO eD (ao 1 rfl (cj (ah (aC 4)) aR)) (bU 1 rfl (cg aQ)) (bT 1 (get := aI.ypile_here) (put := fun s v => {s with ypile_here := v}) (h := cf aP))))
  (ap (bb 4 (get := aI.yat) (put := fun s v => {s with yat := v}) (aO eD (ao 1 rfl (cj (ah (aw cw (dZ il (af 0 rfl)) (aC 1))) aR)) (bU 1 rfl (cg aQ)) (bT 1 (get := aI.ypile_here) (put := fun s v => {s with ypile_here := v}) (h := cf aP))))
  (ap (cN (Z' := [some ⟨aI.yfound, (rL (aa rI rI rI))⟩, some ⟨aI.ypile_here, (rL rI)⟩, some ⟨aI.ypair_here, (aa rI rI rI)⟩, some ⟨aI.yway, rI⟩, some ⟨aI.yat, rI⟩]) (bK (cB dn (ah (af 3 rfl)) (ah (aC 0)))) (bz (gb (eC (af 0 rfl) dE (cZ (af 4 rfl))) (eC (af 0 rfl) (cZ (aw cw (af 4 rfl) (aC 1))) dE))) bW)
  (ap (cN (Z' := [some ⟨aI.yfound, (rL (aa rI rI rI))⟩, some ⟨aI.ypile_here, (rL rI)⟩, some ⟨aI.ypair_here, (aa rI rI rI)⟩, some ⟨aI.yway, rI⟩, some ⟨aI.yat, rI⟩]) (bK (cB dn (ah (af 3 rfl)) (ah (aC 1)))) (bz (wI (oG (aM 0 rfl) (cQ (r := (aa rI rI rI)) (bN (aM 2 rfl) cP))))) bW)
  (ap (cN (Z' := [some ⟨aI.yfound, (rL (aa rI rI rI))⟩, some ⟨aI.ypile_here, (rL rI)⟩, some ⟨aI.ypair_here, (aa rI rI rI)⟩, some ⟨aI.yway, rI⟩, some ⟨aI.yat, rI⟩]) (bK (cB dn (ah (af 3 rfl)) (ah (aC 2)))) (bz (gb (gb (eC (af 0 rfl) dE (cZ (af 4 rfl))) (eC (af 0 rfl) (cZ (af 4 rfl)) (cZ (aw cw (af 4 rfl) (aC 1))))) (eC (af 0 rfl) (cZ (af 4 rfl)) dE))) bW)
  (bz (pB (af 0 rfl)))))))) (au dC rfl (au dC rfl (au dC rfl bP)))⟩
noncomputable def gn := iE.1
theorem p4 : JF gv gn (Pc (rL (aa rI rI rI)) (Pc (rL rI) (Pc (aa rI rI rI) Pn))) (rL (aa rI rI rI)) (Pc (rM (aa rI rI rI)) (Pc (rL rI) (Pc (aa rI rI rI) Pn))) := iE.2
structure am where
 ysteps : List ((Int × Int × Int) × (Int × Int × Int) × (Int × Int × Int))
 ypile_here : List Int
 ydrawn_here : List (Int × Int × Int)
 yway : Int
 yat : Int
 yone : Int × Int × Int
 yother : Int × Int × Int
 ymore : Int × Int × Int
 ysome : List (List ((Int × Int × Int) × (Int × Int × Int) × (Int × Int × Int)))
noncomputable def iD : {f : ((List ((Int × Int × Int) × (Int × Int × Int) × (Int × Int × Int))) × (List Int) × (List (Int × Int × Int)) × Unit) -> Option ((List ((Int × Int × Int) × (Int × Int × Int) × (Int × Int × Int))) × ((List ((Int × Int × Int) × (Int × Int × Int) × (Int × Int × Int))) × (List Int) × (List (Int × Int × Int)) × Unit)) // JF gu f (Pc (rL (aa (aa rI rI rI) (aa rI rI rI) (aa rI rI rI))) (Pc (rL rI) (Pc (rL (aa rI rI rI)) Pn))) (rL (aa (aa rI rI rI) (aa rI rI rI) (aa rI rI rI))) (Pc (rM (aa (aa rI rI rI) (aa rI rI rI) (aa rI rI rI))) (Pc (rL rI) (Pc (rM (aa rI rI rI)) Pn)))} := ⟨_, by
 exact cV (S := am) (N := 9) (W := [3, 4, 5, 6, 7, 8, 8]) (c := kE) (Zn := []) (ro := (rL (aa (aa rI rI rI) (aa rI rI rI) (aa rI rI rI)))) (Zp := [some ⟨am.ysteps, (rL (aa (aa rI rI rI) (aa rI rI rI) (aa rI rI rI)))⟩, some ⟨am.ypile_here, (rL rI)⟩, some ⟨am.ydrawn_here, (rL (aa rI rI rI))⟩]) (Zr := [some ⟨am.ysteps, (rM (aa (aa rI rI rI) (aa rI rI rI) (aa rI rI rI)))⟩, some ⟨am.ypile_here, (rL rI)⟩, some ⟨am.ydrawn_here, (rM (aa rI rI rI))⟩, none, none, none, none, none, none]) (init := (fun p => (⟨p.1, p.2.1, p.2.2.1, 0, 0, (0, 0, 0), (0, 0, 0), (0, 0, 0), []⟩ : am))) (aA (get := am.ysteps) dC (fun _ => rfl) fun _ => (aA (get := am.ypile_here) dC (fun _ => rfl) fun _ => (aA (get := am.ydrawn_here) dC (fun _ => rfl) fun _ => bZ)))
  (ap (bb 3 (get := am.yway) (put := fun s v => {s with yway := v}) (aO eD (ao 1 rfl (cj (ah (aC 10)) aR)) (bU 1 rfl (cg aQ)) (bT 1 (get := am.ypile_here) (put := fun s v => {s with ypile_here := v}) (h := cf aP))))
  (ap (bb 4 (get := am.yat) (put := fun s v => {s with yat := v}) (aO eD (ao 1 rfl (cj (ah (dZ il (af 0 rfl))) aR)) (bU 1 rfl (cg aQ)) (bT 1 (get := am.ypile_here) (put := fun s v => {s with ypile_here := v}) (h := cf aP))))
  (ap (nB (d7 (aM 0 rfl) (ah (af 4 rfl))) (jr (bM 5 (get := am.yone) (put := fun s v => {s with yone := v})) (bM 6 (get := am.yother) (put := fun s v => {s with yother := v})) (bM 7 (get := am.ymore) (put := fun s v => {s with ymore := v}))))
  (ap (bb 8 (get := am.ysome) (put := fun s v => {s with ysome := v}) (cQ (r := (rL (aa (aa rI rI rI) (aa rI rI rI) (aa rI rI rI)))) (bN (cQ (cP (r := (aa (aa rI rI rI) (aa rI rI rI) (aa rI rI rI))))) (bN (cQ (r := (aa (aa rI rI rI) (aa rI rI rI) (aa rI rI rI))) (bN (d7 (aM 0 rfl) (ah (af 4 rfl))) (bN (d7 (aM 0 rfl) (ah (af 4 rfl))) cP))) (bN (cQ (r := (aa (aa rI rI rI) (aa rI rI rI) (aa rI rI rI))) (bN (cx (aM 6 rfl) (aM 5 rfl) (aM 7 rfl)) cP)) (bN (cQ (r := (aa (aa rI rI rI) (aa rI rI rI) (aa rI rI rI))) (bN (cx (d7 (aM 2 rfl) (ah (aC 0))) (aM 6 rfl) (aM 7 rfl)) cP)) (bN (cQ (r := (aa (aa rI rI rI) (aa rI rI rI) (aa rI rI rI))) (bN (cx (aM 5 rfl) (d7 (aM 2 rfl) (ah (aC 0))) (aM 7 rfl)) cP)) cP)))))))
  (ap (bb 8 (get := am.ysome) (put := fun s v => {s with ysome := v}) (gb (dQ 8 rfl) (cQ (r := (rL (aa (aa rI rI rI) (aa rI rI rI) (aa rI rI rI)))) (bN (cQ (r := (aa (aa rI rI rI) (aa rI rI rI) (aa rI rI rI))) (bN (cx (aM 5 rfl) (aM 6 rfl) (d7 (aM 2 rfl) (ah (aC 0)))) cP)) (bN (cQ (r := (aa (aa rI rI rI) (aa rI rI rI) (aa rI rI rI))) (bN (d7 (aM 0 rfl) (ah (af 4 rfl))) (bN (cx (d7 (aM 2 rfl) (ah (aC 0))) (d7 (aM 2 rfl) (ah (aC 1))) (d7 (aM 2 rfl) (ah (aC 2)))) cP))) cP)))))
  (ap (cN (Z' := [some ⟨am.ysteps, (rM (aa (aa rI rI rI) (aa rI rI rI) (aa rI rI rI)))⟩, some ⟨am.ypile_here, (rL rI)⟩, some ⟨am.ydrawn_here, (rM (aa rI rI rI))⟩, some ⟨am.yway, rI⟩, some ⟨am.yat, rI⟩, some ⟨am.yone, (aa rI rI rI)⟩, some ⟨am.yother, (aa rI rI rI)⟩, some ⟨am.ymore, (aa rI rI rI)⟩, some ⟨am.ysome, (rL (rL (aa (aa rI rI rI) (aa rI rI rI) (aa rI rI rI))))⟩]) (bK (cB jq (ah (af 3 rfl)) (ah (aC 7)))) (bz (gb (oG (eC (af 0 rfl) dE (cZ (af 4 rfl))) (d7 (aM 8 rfl) (ah (af 3 rfl)))) (eC (af 0 rfl) (cZ (aw cw (af 4 rfl) (aC 1))) dE))) bW)
  (ap (cN (Z' := [some ⟨am.ysteps, (rM (aa (aa rI rI rI) (aa rI rI rI) (aa rI rI rI)))⟩, some ⟨am.ypile_here, (rL rI)⟩, some ⟨am.ydrawn_here, (rM (aa rI rI rI))⟩, some ⟨am.yway, rI⟩, some ⟨am.yat, rI⟩, some ⟨am.yone, (aa rI rI rI)⟩, some ⟨am.yother, (aa rI rI rI)⟩, some ⟨am.ymore, (aa rI rI rI)⟩, some ⟨am.ysome, (rL (rL (aa (aa rI rI rI) (aa rI rI rI) (aa rI rI rI))))⟩]) (bK (cB dn (ah (af 3 rfl)) (ah (aC 7)))) (bz (pB (af 0 rfl))) bW)
  (ap (cN (Z' := [some ⟨am.ysteps, (rM (aa (aa rI rI rI) (aa rI rI rI) (aa rI rI rI)))⟩, some ⟨am.ypile_here, (rL rI)⟩, some ⟨am.ydrawn_here, (rM (aa rI rI rI))⟩, some ⟨am.yway, rI⟩, some ⟨am.yat, rI⟩, some ⟨am.yone, (aa rI rI rI)⟩, some ⟨am.yother, (aa rI rI rI)⟩, some ⟨am.ymore, (aa rI rI rI)⟩, some ⟨am.ysome, (rL (rL (aa (aa rI rI rI) (aa rI rI rI) (aa rI rI rI))))⟩]) (bK (cB dn (ah (af 3 rfl)) (ah (aC 8)))) (bz (gb (eC (af 0 rfl) (cZ (aC 1)) dE) (eC (af 0 rfl) dE (cZ (aC 1))))) bW)
  (bz (gb (gb (eC (af 0 rfl) dE (cZ (af 4 rfl))) (cQ (r := (aa (aa rI rI rI) (aa rI rI rI) (aa rI rI rI))) (bN (cx (aM 5 rfl) (aM 6 rfl) (aM 5 rfl)) cP))) (eC (af 0 rfl) (cZ (af 4 rfl)) dE))))))))))) (au dC rfl (au dC rfl (au dC rfl bP)))⟩
noncomputable def iw := iD.1
theorem pZ : JF gu iw (Pc (rL (aa (aa rI rI rI) (aa rI rI rI) (aa rI rI rI))) (Pc (rL rI) (Pc (rL (aa rI rI rI)) Pn))) (rL (aa (aa rI rI rI) (aa rI rI rI) (aa rI rI rI))) (Pc (rM (aa (aa rI rI rI) (aa rI rI rI) (aa rI rI rI))) (Pc (rL rI) (Pc (rM (aa rI rI rI)) Pn))) := iD.2
structure ax where
 yn : Int
 ypairs_here : List (Int × Int × Int)
 ypile_here : List Int
 yfound : List (Int × Int × Int)
 ysteps : List ((Int × Int × Int) × (Int × Int × Int) × (Int × Int × Int))
 yevery : List (Int × Int × Int)
 yway : Int
 ydrawn_here : List (Int × Int × Int)
noncomputable def o6 : {f : (Int × (List (Int × Int × Int)) × (List Int) × Unit) -> Option (((List (Int × Int × Int)) × (List (Int × Int × Int)) × (List ((Int × Int × Int) × (Int × Int × Int) × (Int × Int × Int)))) × (Int × (List (Int × Int × Int)) × (List Int) × Unit)) // JF lQ f (Pc rI (Pc (rM (aa rI rI rI)) (Pc (rL rI) Pn))) (aa (rM (aa rI rI rI)) (rL (aa rI rI rI)) (rM (aa (aa rI rI rI) (aa rI rI rI) (aa rI rI rI)))) (Pc rI (Pc (rM (aa rI rI rI)) (Pc (rL rI) Pn)))} := ⟨_, by
 exact cV (S := ax) (N := 8) (W := [3, 4, 5, 6, 7]) (c := tp) (Zn := []) (ro := (aa (rM (aa rI rI rI)) (rL (aa rI rI rI)) (rM (aa (aa rI rI rI) (aa rI rI rI) (aa rI rI rI))))) (Zp := [some ⟨ax.yn, rI⟩, some ⟨ax.ypairs_here, (rM (aa rI rI rI))⟩, some ⟨ax.ypile_here, (rL rI)⟩]) (Zr := [some ⟨ax.yn, rI⟩, some ⟨ax.ypairs_here, (rM (aa rI rI rI))⟩, some ⟨ax.ypile_here, (rL rI)⟩, none, none, none, none, none]) (init := (fun p => (⟨p.1, p.2.1, p.2.2.1, [], [], [], 0, []⟩ : ax))) (aA (get := ax.yn) dC (fun _ => rfl) fun _ => (aA (get := ax.ypairs_here) dC (fun _ => rfl) fun _ => (aA (get := ax.ypile_here) dC (fun _ => rfl) fun _ => bZ)))
  (ap (nB (aO yW (ao 0 rfl (ao 1 rfl aR)) (aK 0 rfl (bU 1 rfl aQ)) (aJ 0 (bT 1 (get := ax.ypairs_here) (put := fun s v => {s with ypairs_here := v}) (h := aP)))) (xF (bM 3 (get := ax.yfound) (put := fun s v => {s with yfound := v})) (bM 4 (get := ax.ysteps) (put := fun s v => {s with ysteps := v}))))
  (ap (bb 5 (get := ax.yevery) (put := fun s v => {s with yevery := v}) (aO mY (ao 0 rfl aR) (aK 0 rfl aQ) (aJ 0 aP)))
  (ap (bb 6 (get := ax.yway) (put := fun s v => {s with yway := v}) (aO eD (ao 2 rfl (cj (ah (aC 8)) aR)) (bU 2 rfl (cg aQ)) (bT 2 (get := ax.ypile_here) (put := fun s v => {s with ypile_here := v}) (h := cf aP))))
  (ap (cN (Z' := [some ⟨ax.yn, rI⟩, some ⟨ax.ypairs_here, (rM (aa rI rI rI))⟩, some ⟨ax.ypile_here, (rL rI)⟩, some ⟨ax.yfound, (rL (aa rI rI rI))⟩, some ⟨ax.ysteps, (rL (aa (aa rI rI rI) (aa rI rI rI) (aa rI rI rI)))⟩, some ⟨ax.yevery, (rL (aa rI rI rI))⟩, some ⟨ax.yway, rI⟩, none]) (jp (bK (ah (aw dn (af 5 rfl) (qa (r := (aa rI rI rI)))))) (bK (cB dn (ah (af 6 rfl)) (ah (aC 0))))) (bz (cx (aM 1 rfl) (dQ 3 rfl) (dQ 4 rfl))) bW)
  (ap (bb 7 (get := ax.ydrawn_here) (put := fun s v => {s with ydrawn_here := v}) (iK (Zh := [some ⟨ax.yn, rI⟩, some ⟨ax.ypairs_here, (rM (aa rI rI rI))⟩, some ⟨ax.ypile_here, (rL rI)⟩, some ⟨ax.yfound, (rL (aa rI rI rI))⟩, some ⟨ax.ysteps, (rL (aa (aa rI rI rI) (aa rI rI rI) (aa rI rI rI)))⟩, some ⟨ax.yevery, (rM (aa rI rI rI))⟩, some ⟨ax.yway, rI⟩, none]) (fK (ah (aC 3))) (by repeat (first | exact Le.nil | refine Le.som inferInstance ?_ | refine Le.non ?_)) (km 8 rfl) (fun x2 => lL) (fun x2 => (d7 (aM 5 rfl) (aO eD (ao 2 rfl (cj (ah (dZ il (af 5 rfl))) aR)) (bU 2 rfl (cg aQ)) (bT 2 (get := ax.ypile_here) (put := fun s v => {s with ypile_here := v}) (h := cf aP)))))))
  (ap (cN (Z' := [some ⟨ax.yn, rI⟩, some ⟨ax.ypairs_here, (rM (aa rI rI rI))⟩, some ⟨ax.ypile_here, (rL rI)⟩, some ⟨ax.yfound, (rL (aa rI rI rI))⟩, some ⟨ax.ysteps, (rL (aa (aa rI rI rI) (aa rI rI rI) (aa rI rI rI)))⟩, some ⟨ax.yevery, (rM (aa rI rI rI))⟩, some ⟨ax.yway, rI⟩, some ⟨ax.ydrawn_here, (rL (aa rI rI rI))⟩]) (jp (bK (cB jq (ah (af 6 rfl)) (ah (aC 3)))) (bK (ah (aw dn (af 4 rfl) (qa (r := (aa (aa rI rI rI) (aa rI rI rI) (aa rI rI rI)))))))) (bz (cx (aM 1 rfl) (aO p4 (ao 3 rfl (ao 2 rfl (cj (d7 (aM 7 rfl) (ah (aC 0))) aR))) (bU 3 rfl (bU 2 rfl (cg aQ))) (bT 3 (get := ax.yfound) (put := fun s v => {s with yfound := v}) (h := bT 2 (get := ax.ypile_here) (put := fun s v => {s with ypile_here := v}) (h := cf aP)))) (dQ 4 rfl))) bW)
  (ap (cN (Z' := [some ⟨ax.yn, rI⟩, some ⟨ax.ypairs_here, (rM (aa rI rI rI))⟩, some ⟨ax.ypile_here, (rL rI)⟩, some ⟨ax.yfound, (rL (aa rI rI rI))⟩, some ⟨ax.ysteps, (rL (aa (aa rI rI rI) (aa rI rI rI) (aa rI rI rI)))⟩, some ⟨ax.yevery, (rM (aa rI rI rI))⟩, some ⟨ax.yway, rI⟩, some ⟨ax.ydrawn_here, (rL (aa rI rI rI))⟩]) (bK (cB dn (ah (af 6 rfl)) (ah (aC 3)))) (bz (cx (eC (af 1 rfl) dE (cZ (i4 (aC 1)))) (dQ 3 rfl) (dQ 4 rfl))) bW)
  (ap (cN (Z' := [some ⟨ax.yn, rI⟩, some ⟨ax.ypairs_here, (rM (aa rI rI rI))⟩, some ⟨ax.ypile_here, (rL rI)⟩, some ⟨ax.yfound, (rL (aa rI rI rI))⟩, some ⟨ax.ysteps, (rL (aa (aa rI rI rI) (aa rI rI rI) (aa rI rI rI)))⟩, some ⟨ax.yevery, (rM (aa rI rI rI))⟩, some ⟨ax.yway, rI⟩, some ⟨ax.ydrawn_here, (rL (aa rI rI rI))⟩]) (bK (cB dn (ah (af 6 rfl)) (ah (aC 4)))) (bz (cx (oG (aM 1 rfl) (cQ (r := (aa rI rI rI)) (bN (li tR (d7 (aM 4 rfl) (aO eD (ao 2 rfl (cj (ah (dZ il (af 4 rfl))) aR)) (bU 2 rfl (cg aQ)) (bT 2 (get := ax.ypile_here) (put := fun s v => {s with ypile_here := v}) (h := cf aP))))) cP))) (dQ 3 rfl) (aM 4 rfl)) inferInstance (by first | exact Le.refl | (repeat (first | exact Le.nil | refine Le.som inferInstance ?_ | refine Le.non ?_)))) bW)
  (ap (cN (Z' := [some ⟨ax.yn, rI⟩, some ⟨ax.ypairs_here, (rM (aa rI rI rI))⟩, some ⟨ax.ypile_here, (rL rI)⟩, some ⟨ax.yfound, (rL (aa rI rI rI))⟩, some ⟨ax.ysteps, (rL (aa (aa rI rI rI) (aa rI rI rI) (aa rI rI rI)))⟩, some ⟨ax.yevery, (rM (aa rI rI rI))⟩, some ⟨ax.yway, rI⟩, some ⟨ax.ydrawn_here, (rL (aa rI rI rI))⟩]) (bK (cB dn (ah (af 6 rfl)) (ah (aC 5)))) (bz (cx (aM 1 rfl) (iK (d6 (aM 3 rfl)) Le.refl (km 8 rfl) (fun x3 => (bK (ah (aw iJ (af 8 rfl) (Ax tR (aw gM (af 4 rfl) (i4 (aC 1)))))))) (fun x3 => (aM 8 rfl))) (eC (af 4 rfl) dE (cZ (i4 (aC 1)))))) bW)
  (bz (cx (aM 1 rfl) (dQ 3 rfl) (aO pZ (ao 4 rfl (ao 2 rfl (ao 7 rfl aR))) (bU 4 rfl (bU 2 rfl (bU 7 rfl aQ))) (bT 4 (get := ax.ysteps) (put := fun s v => {s with ysteps := v}) (h := bT 2 (get := ax.ypile_here) (put := fun s v => {s with ypile_here := v}) (h := bT 7 (get := ax.ydrawn_here) (put := fun s v => {s with ydrawn_here := v}) (h := aP)))))))))))))))) (au dC rfl (au dC rfl (au dC rfl bP)))⟩
noncomputable def oa := o6.1
theorem yX : JF lQ oa (Pc rI (Pc (rM (aa rI rI rI)) (Pc (rL rI) Pn))) (aa (rM (aa rI rI rI)) (rL (aa rI rI rI)) (rM (aa (aa rI rI rI) (aa rI rI rI) (aa rI rI rI)))) (Pc rI (Pc (rM (aa rI rI rI)) (Pc (rL rI) Pn))) := o6.2
structure gm where
 xn : Int
noncomputable def mo : {f : (Int × Unit) -> Option (Int × (Int × Unit)) // JF gf f (Pc rI Pn) rI (Pc rI Pn)} := ⟨_, by
 exact cV (S := gm) (N := 1) (W := []) (c := ml) (Zn := []) (ro := rI) (Zp := [some ⟨gm.xn, rI⟩]) (Zr := [some ⟨gm.xn, rI⟩]) (init := (fun p => (⟨p.1⟩ : gm))) (aA (get := gm.xn) dC (fun _ => rfl) fun _ => bZ)
  (bz (ah (aw cw (aw db (aC 1) (af 0 rfl)) (aC 1)))) (au dC rfl bP)⟩
noncomputable def sf := mo.1
theorem md : JF gf sf (Pc rI Pn) rI (Pc rI Pn) := mo.2
structure dw where
 xone : Int
 xother : Int
 xknown : Int
noncomputable def pQ : {f : (Int × Int × Int × Unit) -> Option ((Int × Int × Int) × (Int × Int × Int × Unit)) // JF fE f (Pc rI (Pc rI (Pc rI Pn))) (aa rI rI rI) (Pc rI (Pc rI (Pc rI Pn)))} := ⟨_, by
 exact cV (S := dw) (N := 3) (W := []) (c := pJ) (Zn := []) (ro := (aa rI rI rI)) (Zp := [some ⟨dw.xone, rI⟩, some ⟨dw.xother, rI⟩, some ⟨dw.xknown, rI⟩]) (Zr := [some ⟨dw.xone, rI⟩, some ⟨dw.xother, rI⟩, some ⟨dw.xknown, rI⟩]) (init := (fun p => (⟨p.1, p.2.1, p.2.2.1⟩ : dw))) (aA (get := dw.xone) dC (fun _ => rfl) fun _ => (aA (get := dw.xother) dC (fun _ => rfl) fun _ => (aA (get := dw.xknown) dC (fun _ => rfl) fun _ => bZ)))
  (bz (cx (ah (nC vz (af 0 rfl) (af 1 rfl))) (ah (nC vA (af 0 rfl) (af 1 rfl))) (ah (af 2 rfl)))) (au dC rfl (au dC rfl (au dC rfl bP)))⟩
noncomputable def uK := pQ.1
theorem jt : JF fE uK (Pc rI (Pc rI (Pc rI Pn))) (aa rI rI rI) (Pc rI (Pc rI (Pc rI Pn))) := pQ.2
structure cr where
 xi : Int
 xj : Int
 xk : Int
 xg : Int
 xone : Int × Int × Int
 xother : Int × Int × Int
noncomputable def nV : {f : (Int × Int × Int × Int × Unit) -> Option ((List ((Int × Int × Int) × (Int × Int × Int) × (Int × Int × Int))) × (Int × Int × Int × Int × Unit)) // JF iL f (Pc rI (Pc rI (Pc rI (Pc rI Pn)))) (rL (aa (aa rI rI rI) (aa rI rI rI) (aa rI rI rI))) (Pc rI (Pc rI (Pc rI (Pc rI Pn))))} := ⟨_, by
 exact cV (S := cr) (N := 6) (W := [4, 5]) (c := nS) (Zn := []) (ro := (rL (aa (aa rI rI rI) (aa rI rI rI) (aa rI rI rI)))) (Zp := [some ⟨cr.xi, rI⟩, some ⟨cr.xj, rI⟩, some ⟨cr.xk, rI⟩, some ⟨cr.xg, rI⟩]) (Zr := [some ⟨cr.xi, rI⟩, some ⟨cr.xj, rI⟩, some ⟨cr.xk, rI⟩, some ⟨cr.xg, rI⟩, none, none]) (init := (fun p => (⟨p.1, p.2.1, p.2.2.1, p.2.2.2.1, (0, 0, 0), (0, 0, 0)⟩ : cr))) (aA (get := cr.xi) dC (fun _ => rfl) fun _ => (aA (get := cr.xj) dC (fun _ => rfl) fun _ => (aA (get := cr.xk) dC (fun _ => rfl) fun _ => (aA (get := cr.xg) dC (fun _ => rfl) fun _ => bZ))))
  (ap (bb 4 (get := cr.xone) (put := fun s v => {s with xone := v}) (aO jt (ao 0 rfl (ao 2 rfl (ao 3 rfl aR))) (aK 0 rfl (aK 2 rfl (aK 3 rfl aQ))) (aJ 0 (aJ 2 (aJ 3 aP)))))
  (ap (bb 5 (get := cr.xother) (put := fun s v => {s with xother := v}) (aO jt (ao 0 rfl (ao 1 rfl (cj (ah (aw cw (af 3 rfl) (aw db (aC 1) (af 2 rfl)))) aR))) (aK 0 rfl (aK 1 rfl (cg aQ))) (aJ 0 (aJ 1 (cf aP)))))
  (bz (cQ (r := (aa (aa rI rI rI) (aa rI rI rI) (aa rI rI rI))) (bN (cx (aM 4 rfl) (aM 5 rfl) (aO jt (ao 0 rfl (ao 1 rfl (ao 3 rfl aR))) (aK 0 rfl (aK 1 rfl (aK 3 rfl aQ))) (aJ 0 (aJ 1 (aJ 3 aP))))) (bN (cx (aM 4 rfl) (aM 5 rfl) (aO jt (ao 0 rfl (ao 2 rfl (cj (ah (aw cw (af 3 rfl) (aw db (aC 1) (af 1 rfl)))) aR))) (aK 0 rfl (aK 2 rfl (cg aQ))) (aJ 0 (aJ 2 (cf aP))))) cP))) inferInstance (by first | exact Le.refl | (repeat (first | exact Le.nil | refine Le.som inferInstance ?_ | refine Le.non ?_)))))) (au dC rfl (au dC rfl (au dC rfl (au dC rfl bP))))⟩
noncomputable def tS := nV.1
theorem um : JF iL tS (Pc rI (Pc rI (Pc rI (Pc rI Pn)))) (rL (aa (aa rI rI rI) (aa rI rI rI) (aa rI rI rI))) (Pc rI (Pc rI (Pc rI (Pc rI Pn)))) := nV.2
structure aD where
 xn : Int
 xi : Int
 xj : Int
 xk : Int
 xthree : Int
 xfound : List ((Int × Int × Int) × (Int × Int × Int) × (Int × Int × Int))
 xg : Int
noncomputable def je : {f : (Int × Int × Int × Int × Unit) -> Option ((List ((Int × Int × Int) × (Int × Int × Int) × (Int × Int × Int))) × (Int × Int × Int × Int × Unit)) // JF eQ f (Pc rI (Pc rI (Pc rI (Pc rI Pn)))) (rL (aa (aa rI rI rI) (aa rI rI rI) (aa rI rI rI))) (Pc rI (Pc rI (Pc rI (Pc rI Pn))))} := ⟨_, by
 exact cV (S := aD) (N := 7) (W := [4, 5, 6]) (c := ja) (Zn := []) (ro := (rL (aa (aa rI rI rI) (aa rI rI rI) (aa rI rI rI)))) (Zp := [some ⟨aD.xn, rI⟩, some ⟨aD.xi, rI⟩, some ⟨aD.xj, rI⟩, some ⟨aD.xk, rI⟩]) (Zr := [some ⟨aD.xn, rI⟩, some ⟨aD.xi, rI⟩, some ⟨aD.xj, rI⟩, some ⟨aD.xk, rI⟩, none, none, none]) (init := (fun p => (⟨p.1, p.2.1, p.2.2.1, p.2.2.2.1, 0, [], 0⟩ : aD))) (aA (get := aD.xn) dC (fun _ => rfl) fun _ => (aA (get := aD.xi) dC (fun _ => rfl) fun _ => (aA (get := aD.xj) dC (fun _ => rfl) fun _ => (aA (get := aD.xk) dC (fun _ => rfl) fun _ => bZ))))
  (ap (bb 4 (get := aD.xthree) (put := fun s v => {s with xthree := v}) (ah (aw cw (aw cw (aw db (aC 1) (af 1 rfl)) (aw db (aC 1) (af 2 rfl))) (aw db (aC 1) (af 3 rfl)))))
  (ap (bb 5 (get := aD.xfound) (put := fun s v => {s with xfound := v}) (cQ (cP (r := (aa (aa rI rI rI) (aa rI rI rI) (aa rI rI rI))))))
  (ap (cS (fK (cB cw (aO md (ao 0 rfl aR) (aK 0 rfl aQ) (aJ 0 aP)) (ah (aC 1)))) Le.refl (bM 6 (get := aD.xg) (put := fun s v => {s with xg := v})) (cN (Z' := [some ⟨aD.xn, rI⟩, some ⟨aD.xi, rI⟩, some ⟨aD.xj, rI⟩, some ⟨aD.xk, rI⟩, some ⟨aD.xthree, rI⟩, some ⟨aD.xfound, (rL (aa (aa rI rI rI) (aa rI rI rI) (aa rI rI rI)))⟩, some ⟨aD.xg, rI⟩]) (bK (cB dn (ah (aw cw (af 6 rfl) (af 4 rfl))) (ah (aC 0)))) (fm (oE 5 (get := aD.xfound) (put := fun s v => {s with xfound := v}) (aO um (ao 1 rfl (ao 2 rfl (ao 3 rfl (ao 6 rfl aR)))) (aK 1 rfl (aK 2 rfl (aK 3 rfl (aK 6 rfl aQ)))) (aJ 1 (aJ 2 (aJ 3 (aJ 6 aP))))) rfl rfl)) bW))
  (bz (dQ 5 rfl))))) (au dC rfl (au dC rfl (au dC rfl (au dC rfl bP))))⟩
noncomputable def mz := je.1
theorem mX : JF eQ mz (Pc rI (Pc rI (Pc rI (Pc rI Pn)))) (rL (aa (aa rI rI rI) (aa rI rI rI) (aa rI rI rI))) (Pc rI (Pc rI (Pc rI (Pc rI Pn)))) := je.2
structure cn where
 xn : Int
 xfound : List ((Int × Int × Int) × (Int × Int × Int) × (Int × Int × Int))
 xi : Int
 xj : Int
 xk : Int
noncomputable def mm : {f : (Int × Unit) -> Option ((List ((Int × Int × Int) × (Int × Int × Int) × (Int × Int × Int))) × (Int × Unit)) // JF gc f (Pc rI Pn) (rL (aa (aa rI rI rI) (aa rI rI rI) (aa rI rI rI))) (Pc rI Pn)} := ⟨_, by
 exact cV (S := cn) (N := 5) (W := [1, 2, 3, 4]) (c := mi) (Zn := []) (ro := (rL (aa (aa rI rI rI) (aa rI rI rI) (aa rI rI rI)))) (Zp := [some ⟨cn.xn, rI⟩]) (Zr := [some ⟨cn.xn, rI⟩, none, none, none, none]) (init := (fun p => (⟨p.1, [], 0, 0, 0⟩ : cn))) (aA (get := cn.xn) dC (fun _ => rfl) fun _ => bZ)
  (ap (bb 1 (get := cn.xfound) (put := fun s v => {s with xfound := v}) (cQ (cP (r := (aa (aa rI rI rI) (aa rI rI rI) (aa rI rI rI))))))
  (ap (cS (fK (ah (af 0 rfl))) Le.refl (bM 2 (get := cn.xi) (put := fun s v => {s with xi := v})) (cS (fK (ah (af 0 rfl))) Le.refl (bM 3 (get := cn.xj) (put := fun s v => {s with xj := v})) (cS (fK (ah (af 0 rfl))) Le.refl (bM 4 (get := cn.xk) (put := fun s v => {s with xk := v})) (cN (Z' := [some ⟨cn.xn, rI⟩, some ⟨cn.xfound, (rL (aa (aa rI rI rI) (aa rI rI rI) (aa rI rI rI)))⟩, some ⟨cn.xi, rI⟩, some ⟨cn.xj, rI⟩, some ⟨cn.xk, rI⟩]) (e8 (bK (cB iJ (ah (af 2 rfl)) (ah (af 3 rfl)))) (e8 (bK (cB iJ (ah (af 2 rfl)) (ah (af 4 rfl)))) (bK (cB iJ (ah (af 3 rfl)) (ah (af 4 rfl)))))) (fm (oE 1 (get := cn.xfound) (put := fun s v => {s with xfound := v}) (aO mX (ao 0 rfl (ao 2 rfl (ao 3 rfl (ao 4 rfl aR)))) (aK 0 rfl (aK 2 rfl (aK 3 rfl (aK 4 rfl aQ)))) (aJ 0 (aJ 2 (aJ 3 (aJ 4 aP))))) rfl rfl)) bW))))
  (bz (dQ 1 rfl)))) (au dC rfl bP)⟩
noncomputable def fQ := mm.1
theorem ma : JF gc fQ (Pc rI Pn) (rL (aa (aa rI rI rI) (aa rI rI rI) (aa rI rI rI))) (Pc rI Pn) := mm.2
structure bF where
 xn : Int
 xi : Int
 xj : Int
 xboth : Int
noncomputable def iq : {f : (Int × Int × Int × Unit) -> Option ((List PyData) × (Int × Int × Int × Unit)) // JF d8 f (Pc rI (Pc rI (Pc rI Pn))) (rL rQ) (Pc rI (Pc rI (Pc rI Pn)))} := ⟨_, by
 exact cV (S := bF) (N := 4) (W := [3]) (c := ip) (Zn := []) (ro := (rL rQ)) (Zp := [some ⟨bF.xn, rI⟩, some ⟨bF.xi, rI⟩, some ⟨bF.xj, rI⟩]) (Zr := [some ⟨bF.xn, rI⟩, some ⟨bF.xi, rI⟩, some ⟨bF.xj, rI⟩, none]) (init := (fun p => (⟨p.1, p.2.1, p.2.2.1, 0⟩ : bF))) (aA (get := bF.xn) dC (fun _ => rfl) fun _ => (aA (get := bF.xi) dC (fun _ => rfl) fun _ => (aA (get := bF.xj) dC (fun _ => rfl) fun _ => bZ)))
  (ap (bb 3 (get := bF.xboth) (put := fun s v => {s with xboth := v}) (ah (aw cw (aw db (aC 1) (af 1 rfl)) (aw db (aC 1) (af 2 rfl)))))
  (bz (iK (fK (cB cw (aO md (ao 0 rfl aR) (aK 0 rfl aQ) (aJ 0 aP)) (ah (aC 1)))) Le.refl (km 4 rfl) (fun x8 => (bK (cB dn (ah (aw cw (af 4 rfl) (af 3 rfl))) (ah (aC 0))))) (fun x8 => (xG (BB (ah (wH "pair")) (ah (af 1 rfl)) (ah (af 2 rfl)) (ah (af 4 rfl)))))))) (au dC rfl (au dC rfl (au dC rfl bP)))⟩
noncomputable def kN := iq.1
theorem ll : JF d8 kN (Pc rI (Pc rI (Pc rI Pn))) (rL rQ) (Pc rI (Pc rI (Pc rI Pn))) := iq.2
structure fN where
 xn : Int
 xfound : List PyData
 xi : Int
 xj : Int
noncomputable def tx : {f : (Int × Unit) -> Option ((List PyData) × (Int × Unit)) // JF lO f (Pc rI Pn) (rL rQ) (Pc rI Pn)} := ⟨_, by
 exact cV (S := fN) (N := 4) (W := [1, 2, 3]) (c := sY) (Zn := []) (ro := (rL rQ)) (Zp := [some ⟨fN.xn, rI⟩]) (Zr := [some ⟨fN.xn, rI⟩, none, none, none]) (init := (fun p => (⟨p.1, [], 0, 0⟩ : fN))) (aA (get := fN.xn) dC (fun _ => rfl) fun _ => bZ)
  (ap (bb 1 (get := fN.xfound) (put := fun s v => {s with xfound := v}) (iK (fK (ah (af 0 rfl))) Le.refl (km 4 rfl) (fun x7 => lL) (fun x7 => (xG (lN (ah (wH "last")) (ah (af 4 rfl)))))))
  (ap (cS (fK (ah (af 0 rfl))) Le.refl (bM 2 (get := fN.xi) (put := fun s v => {s with xi := v})) (cS (ul (ah (aw cw (af 2 rfl) (aC 1))) (ah (af 0 rfl))) Le.refl (bM 3 (get := fN.xj) (put := fun s v => {s with xj := v})) (fm (oE 1 (get := fN.xfound) (put := fun s v => {s with xfound := v}) (aO ll (ao 0 rfl (ao 2 rfl (ao 3 rfl aR))) (aK 0 rfl (aK 2 rfl (aK 3 rfl aQ))) (aJ 0 (aJ 2 (aJ 3 aP)))) rfl rfl))))
  (bz (dQ 1 rfl)))) (au dC rfl bP)⟩
noncomputable def xZ := tx.1
theorem yV : JF lO xZ (Pc rI Pn) (rL rQ) (Pc rI Pn) := tx.2
structure gk where
 xn : Int
noncomputable def mn : {f : (Int × Unit) -> Option ((List (Int × Int × Int)) × (Int × Unit)) // JF ia f (Pc rI Pn) (rL (aa rI rI rI)) (Pc rI Pn)} := ⟨_, by
 exact cV (S := gk) (N := 1) (W := []) (c := mj) (Zn := []) (ro := (rL (aa rI rI rI))) (Zp := [some ⟨gk.xn, rI⟩]) (Zr := [some ⟨gk.xn, rI⟩]) (init := (fun p => (⟨p.1⟩ : gk))) (aA (get := gk.xn) dC (fun _ => rfl) fun _ => bZ)
  (bz (iK (d6 (aO yV (ao 0 rfl aR) (aK 0 rfl aQ) (aJ 0 aP))) Le.refl (km 1 rfl) (fun x6 => (bK (cB dn (ah (Ay (aw nD (af 1 rfl) (aC 0)))) (ah (wH "pair"))))) (fun x6 => (cx (ah (qO (aw nD (af 1 rfl) (aC 1)))) (ah (qO (aw nD (af 1 rfl) (aC 2)))) (ah (qO (aw nD (af 1 rfl) (aC 3)))))))) (au dC rfl bP)⟩
noncomputable def fR := mn.1
theorem ss : JF ia fR (Pc rI Pn) (rL (aa rI rI rI)) (Pc rI Pn) := mn.2
structure ar where
 xn : Int
 xpairs : List (Int × Int × Int)
 xsilent : List (Int × Int × Int)
 xsteps : List ((Int × Int × Int) × (Int × Int × Int) × (Int × Int × Int))
 xmany : Int
 xone : Int × Int × Int
 xother : Int × Int × Int
 xmore : Int × Int × Int
noncomputable def gW : {f : (Int × (List (Int × Int × Int)) × Unit) -> Option (((List (Int × Int × Int)) × (List ((Int × Int × Int) × (Int × Int × Int) × (Int × Int × Int)))) × (Int × (List (Int × Int × Int)) × Unit)) // JF fy f (Pc rI (Pc (rM (aa rI rI rI)) Pn)) (gX (rL (aa rI rI rI)) (rL (aa (aa rI rI rI) (aa rI rI rI) (aa rI rI rI)))) (Pc rI (Pc (rM (aa rI rI rI)) Pn))} := ⟨_, by
 exact cV (S := ar) (N := 8) (W := [2, 3, 4, 4, 5, 6, 7]) (c := jB) (Zn := []) (ro := (gX (rL (aa rI rI rI)) (rL (aa (aa rI rI rI) (aa rI rI rI) (aa rI rI rI))))) (Zp := [some ⟨ar.xn, rI⟩, some ⟨ar.xpairs, (rM (aa rI rI rI))⟩]) (Zr := [some ⟨ar.xn, rI⟩, some ⟨ar.xpairs, (rM (aa rI rI rI))⟩, none, none, none, none, none, none]) (init := (fun p => (⟨p.1, p.2.1, [], [], 0, (0, 0, 0), (0, 0, 0), (0, 0, 0)⟩ : ar))) (aA (get := ar.xn) dC (fun _ => rfl) fun _ => (aA (get := ar.xpairs) dC (fun _ => rfl) fun _ => bZ))
  (ap (bb 2 (get := ar.xsilent) (put := fun s v => {s with xsilent := v}) (qR (iK (d6 (aM 1 rfl)) Le.refl (km 8 rfl) (fun x4 => lL) (fun x4 => (lN (aM 8 rfl) (ah (mU true)))))))
  (ap (bb 3 (get := ar.xsteps) (put := fun s v => {s with xsteps := v}) (cQ (cP (r := (aa (aa rI rI rI) (aa rI rI rI) (aa rI rI rI))))))
  (ap (bb 4 (get := ar.xmany) (put := fun s v => {s with xmany := v}) (ah (i4 (aC 1))))
  (ap (mT Le.refl (bK (cB jq (ah (af 4 rfl)) (ah (dZ hX (af 2 rfl))))) (ap (bb 4 (get := ar.xmany) (put := fun s v => {s with xmany := v}) (ah (dZ hX (af 2 rfl))))
  (cS (d6 (aO ma (ao 0 rfl aR) (aK 0 rfl aQ) (aJ 0 aP))) Le.refl (jr (bM 5 (get := ar.xone) (put := fun s v => {s with xone := v})) (bM 6 (get := ar.xother) (put := fun s v => {s with xother := v})) (bM 7 (get := ar.xmore) (put := fun s v => {s with xmore := v}))) (cN (Z' := [some ⟨ar.xn, rI⟩, some ⟨ar.xpairs, (rM (aa rI rI rI))⟩, some ⟨ar.xsilent, gY⟩, some ⟨ar.xsteps, (rL (aa (aa rI rI rI) (aa rI rI rI) (aa rI rI rI)))⟩, some ⟨ar.xmany, rI⟩, some ⟨ar.xone, (aa rI rI rI)⟩, some ⟨ar.xother, (aa rI rI rI)⟩, some ⟨ar.xmore, (aa rI rI rI)⟩]) (e8 (bK (ah (aw gN (af 5 rfl) (af 2 rfl)))) (e8 (bK (ah (aw gN (af 6 rfl) (af 2 rfl)))) (bK (ah (aw iM (af 7 rfl) (af 2 rfl)))))) (ap (gB 2 (get := ar.xsilent) (put := fun s v => {s with xsilent := v}) (af 7 rfl) rfl)
  (fm (hW 3 (get := ar.xsteps) (put := fun s v => {s with xsteps := v}) (cx (aM 5 rfl) (aM 6 rfl) (aM 7 rfl)) rfl rfl))) bW))))
  (bz (lN (iK (d6 (aO ss (ao 0 rfl aR) (aK 0 rfl aQ) (aJ 0 aP))) Le.refl (km 8 rfl) (fun x5 => (bK (ah (aw gN (af 8 rfl) (af 2 rfl))))) (fun x5 => (aM 8 rfl))) (dQ 3 rfl))))))) (au dC rfl (au dC rfl bP))⟩
noncomputable def fw := gW.1
theorem nE : JF fy fw (Pc rI (Pc (rM (aa rI rI rI)) Pn)) (gX (rL (aa rI rI rI)) (rL (aa (aa rI rI rI) (aa rI rI rI) (aa rI rI rI)))) (Pc rI (Pc (rM (aa rI rI rI)) Pn)) := gW.2
structure cq where
 xsteps : List ((Int × Int × Int) × (Int × Int × Int) × (Int × Int × Int))
 xone : Int × Int × Int
 xother : Int × Int × Int
 xmore : Int × Int × Int
noncomputable def lu : {f : ((List ((Int × Int × Int) × (Int × Int × Int) × (Int × Int × Int))) × (Int × Int × Int) × (Int × Int × Int) × (Int × Int × Int) × Unit) -> Option (Bool × ((List ((Int × Int × Int) × (Int × Int × Int) × (Int × Int × Int))) × (Int × Int × Int) × (Int × Int × Int) × (Int × Int × Int) × Unit)) // JF jx f (Pc (rM (aa (aa rI rI rI) (aa rI rI rI) (aa rI rI rI))) (Pc (aa rI rI rI) (Pc (aa rI rI rI) (Pc (aa rI rI rI) Pn)))) rB (Pc (rM (aa (aa rI rI rI) (aa rI rI rI) (aa rI rI rI))) (Pc (aa rI rI rI) (Pc (aa rI rI rI) (Pc (aa rI rI rI) Pn))))} := ⟨_, by
 exact cV (S := cq) (N := 4) (W := []) (c := pL) (Zn := []) (ro := rB) (Zp := [some ⟨cq.xsteps, (rM (aa (aa rI rI rI) (aa rI rI rI) (aa rI rI rI)))⟩, some ⟨cq.xone, (aa rI rI rI)⟩, some ⟨cq.xother, (aa rI rI rI)⟩, some ⟨cq.xmore, (aa rI rI rI)⟩]) (Zr := [some ⟨cq.xsteps, (rM (aa (aa rI rI rI) (aa rI rI rI) (aa rI rI rI)))⟩, some ⟨cq.xone, (aa rI rI rI)⟩, some ⟨cq.xother, (aa rI rI rI)⟩, some ⟨cq.xmore, (aa rI rI rI)⟩]) (init := (fun p => (⟨p.1, p.2.1, p.2.2.1, p.2.2.2.1⟩ : cq))) (aA (get := cq.xsteps) dC (fun _ => rfl) fun _ => (aA (get := cq.xone) dC (fun _ => rfl) fun _ => (aA (get := cq.xother) dC (fun _ => rfl) fun _ => (aA (get := cq.xmore) dC (fun _ => rfl) fun _ => bZ))))
  (bz (BC (Z' := [some ⟨cq.xsteps, (rM (aa (aa rI rI rI) (aa rI rI rI) (aa rI rI rI)))⟩, some ⟨cq.xone, (aa rI rI rI)⟩, some ⟨cq.xother, (aa rI rI rI)⟩, some ⟨cq.xmore, (aa rI rI rI)⟩]) (lj uk (cx (aM 1 rfl) (aM 2 rfl) (aM 3 rfl)) (af 0 rfl)) (lj uk (cx (aM 2 rfl) (aM 1 rfl) (aM 3 rfl)) (af 0 rfl)))) (au dC rfl (au dC rfl (au dC rfl (au dC rfl bP))))⟩
noncomputable def kP := lu.1
theorem vC : JF jx kP (Pc (rM (aa (aa rI rI rI) (aa rI rI rI) (aa rI rI rI))) (Pc (aa rI rI rI) (Pc (aa rI rI rI) (Pc (aa rI rI rI) Pn)))) rB (Pc (rM (aa (aa rI rI rI) (aa rI rI rI) (aa rI rI rI))) (Pc (aa rI rI rI) (Pc (aa rI rI rI) (Pc (aa rI rI rI) Pn)))) := lu.2
structure aq where
 xn : Int
 xpairs : List (Int × Int × Int)
 xfound : List (Int × Int × Int)
 xsteps : List ((Int × Int × Int) × (Int × Int × Int) × (Int × Int × Int))
 xallowed : List ((Int × Int × Int) × (Int × Int × Int) × (Int × Int × Int))
 xsilent : List (Int × Int × Int)
 xone : Int × Int × Int
 xother : Int × Int × Int
 xmore : Int × Int × Int
noncomputable def jf : {f : (Int × (List (Int × Int × Int)) × (List (Int × Int × Int)) × (List ((Int × Int × Int) × (Int × Int × Int) × (Int × Int × Int))) × Unit) -> Option (Bool × (Int × (List (Int × Int × Int)) × (List (Int × Int × Int)) × (List ((Int × Int × Int) × (Int × Int × Int) × (Int × Int × Int))) × Unit)) // JF gO f (Pc rI (Pc (rM (aa rI rI rI)) (Pc (rM (aa rI rI rI)) (Pc (rM (aa (aa rI rI rI) (aa rI rI rI) (aa rI rI rI))) Pn)))) rB (Pc rI (Pc (rM (aa rI rI rI)) (Pc (rM (aa rI rI rI)) (Pc (rM (aa (aa rI rI rI) (aa rI rI rI) (aa rI rI rI))) Pn))))} := ⟨_, by
 exact cV (S := aq) (N := 9) (W := [4, 5, 6, 7, 8]) (c := ln) (Zn := []) (ro := rB) (Zp := [some ⟨aq.xn, rI⟩, some ⟨aq.xpairs, (rM (aa rI rI rI))⟩, some ⟨aq.xfound, (rM (aa rI rI rI))⟩, some ⟨aq.xsteps, (rM (aa (aa rI rI rI) (aa rI rI rI) (aa rI rI rI)))⟩]) (Zr := [some ⟨aq.xn, rI⟩, some ⟨aq.xpairs, (rM (aa rI rI rI))⟩, some ⟨aq.xfound, (rM (aa rI rI rI))⟩, some ⟨aq.xsteps, (rM (aa (aa rI rI rI) (aa rI rI rI) (aa rI rI rI)))⟩, none, none, none, none, none]) (init := (fun p => (⟨p.1, p.2.1, p.2.2.1, p.2.2.2.1, [], [], (0, 0, 0), (0, 0, 0), (0, 0, 0)⟩ : aq))) (aA (get := aq.xn) dC (fun _ => rfl) fun _ => (aA (get := aq.xpairs) dC (fun _ => rfl) fun _ => (aA (get := aq.xfound) dC (fun _ => rfl) fun _ => (aA (get := aq.xsteps) dC (fun _ => rfl) fun _ => bZ))))
  (ap (cN (Z' := [some ⟨aq.xn, rI⟩, some ⟨aq.xpairs, (rM (aa rI rI rI))⟩, some ⟨aq.xfound, (rM (aa rI rI rI))⟩, some ⟨aq.xsteps, (rM (aa (aa rI rI rI) (aa rI rI rI) (aa rI rI rI)))⟩, none, none, none, none, none]) (bK (qQ 2 iJ rfl rfl (li A6 (aO nE (ao 0 rfl (ao 1 rfl aR)) (aK 0 rfl (bU 1 rfl aQ)) (aJ 0 (bT 1 (get := aq.xpairs) (put := fun s v => {s with xpairs := v}) (h := aP))))))) (bz (ah (mU false))) bW)
  (ap (bb 4 (get := aq.xallowed) (put := fun s v => {s with xallowed := v}) (aO ma (ao 0 rfl aR) (aK 0 rfl aQ) (aJ 0 aP)))
  (ap (bb 5 (get := aq.xsilent) (put := fun s v => {s with xsilent := v}) (qR (iK (d6 (aM 1 rfl)) Le.refl (km 9 rfl) (fun x9 => lL) (fun x9 => (lN (aM 9 rfl) (ah (mU true)))))))
  (ap (cS (Zh := [some ⟨aq.xn, rI⟩, some ⟨aq.xpairs, (rM (aa rI rI rI))⟩, some ⟨aq.xfound, (rM (aa rI rI rI))⟩, some ⟨aq.xsteps, (rM (aa (aa rI rI rI) (aa rI rI rI) (aa rI rI rI)))⟩, some ⟨aq.xallowed, (rM (aa (aa rI rI rI) (aa rI rI rI) (aa rI rI rI)))⟩, some ⟨aq.xsilent, gY⟩, none, none, none]) (d6 (aM 3 rfl)) (by repeat (first | exact Le.nil | refine Le.som inferInstance ?_ | refine Le.non ?_)) (jr (bM 6 (get := aq.xone) (put := fun s v => {s with xone := v})) (bM 7 (get := aq.xother) (put := fun s v => {s with xother := v})) (bM 8 (get := aq.xmore) (put := fun s v => {s with xmore := v}))) (ap (cN (Z' := [some ⟨aq.xn, rI⟩, some ⟨aq.xpairs, (rM (aa rI rI rI))⟩, some ⟨aq.xfound, (rM (aa rI rI rI))⟩, some ⟨aq.xsteps, (rM (aa (aa rI rI rI) (aa rI rI rI) (aa rI rI rI)))⟩, some ⟨aq.xallowed, (rM (aa (aa rI rI rI) (aa rI rI rI) (aa rI rI rI)))⟩, some ⟨aq.xsilent, gY⟩, some ⟨aq.xone, (aa rI rI rI)⟩, some ⟨aq.xother, (aa rI rI rI)⟩, some ⟨aq.xmore, (aa rI rI rI)⟩]) (jp (bK (ah (aw iM (af 6 rfl) (af 5 rfl)))) (jp (bK (ah (aw iM (af 7 rfl) (af 5 rfl)))) (jp (bK (ah (aw gN (af 8 rfl) (af 5 rfl)))) (vx (bK (aO vC (ao 4 rfl (ao 6 rfl (ao 7 rfl (ao 8 rfl aR)))) (bU 4 rfl (bU 6 rfl (bU 7 rfl (bU 8 rfl aQ)))) (bT 4 (get := aq.xallowed) (put := fun s v => {s with xallowed := v}) (h := bT 6 (get := aq.xone) (put := fun s v => {s with xone := v}) (h := bT 7 (get := aq.xother) (put := fun s v => {s with xother := v}) (h := bT 8 (get := aq.xmore) (put := fun s v => {s with xmore := v}) (h := aP))))))))))) (bz (ah (mU false))) bW)
  (gB 5 (get := aq.xsilent) (put := fun s v => {s with xsilent := v}) (af 8 rfl) rfl)))
  (bz (ah (aw dn (dZ hX (af 5 rfl)) (dZ il (af 2 rfl))))))))) (au dC rfl (au dC rfl (au dC rfl (au dC rfl bP))))⟩
noncomputable def iQ := jf.1
theorem qS : JF gO iQ (Pc rI (Pc (rM (aa rI rI rI)) (Pc (rM (aa rI rI rI)) (Pc (rM (aa (aa rI rI rI) (aa rI rI rI) (aa rI rI rI))) Pn)))) rB (Pc rI (Pc (rM (aa rI rI rI)) (Pc (rM (aa rI rI rI)) (Pc (rM (aa (aa rI rI rI) (aa rI rI rI) (aa rI rI rI))) Pn)))) := jf.2
structure aG where
 yn : Int
 ypairs_here : List (Int × Int × Int)
 ythere : List (Int × Int × Int)
 ypair_here : Int × Int × Int
 yrows : List ((Int × Int × Int) × (Int × Int × Int) × (Int × Int × Int))
 ymany : Int
 yfirst : Int × Int × Int
 ysecond : Int × Int × Int
 ymore : Int × Int × Int
noncomputable def lr : {f : (Int × (List (Int × Int × Int)) × Unit) -> Option ((List (Int × Int × Int)) × (Int × (List (Int × Int × Int)) × Unit)) // JF jv f (Pc rI (Pc (rM (aa rI rI rI)) Pn)) (rL (aa rI rI rI)) (Pc rI (Pc (rM (aa rI rI rI)) Pn))} := ⟨_, by
 exact cV (S := aG) (N := 9) (W := [2, 3, 4, 5, 5, 6, 7, 8]) (c := pK) (Zn := []) (ro := (rL (aa rI rI rI))) (Zp := [some ⟨aG.yn, rI⟩, some ⟨aG.ypairs_here, (rM (aa rI rI rI))⟩]) (Zr := [some ⟨aG.yn, rI⟩, some ⟨aG.ypairs_here, (rM (aa rI rI rI))⟩, none, none, none, none, none, none, none]) (init := (fun p => (⟨p.1, p.2.1, [], (0, 0, 0), [], 0, (0, 0, 0), (0, 0, 0), (0, 0, 0)⟩ : aG))) (aA (get := aG.yn) dC (fun _ => rfl) fun _ => (aA (get := aG.ypairs_here) dC (fun _ => rfl) fun _ => bZ))
  (ap (bb 2 (get := aG.ythere) (put := fun s v => {s with ythere := v}) oF)
  (ap (cS (d6 (aM 1 rfl)) Le.refl (bM 3 (get := aG.ypair_here) (put := fun s v => {s with ypair_here := v})) (gB 2 (get := aG.ythere) (put := fun s v => {s with ythere := v}) (af 3 rfl) rfl))
  (ap (bb 4 (get := aG.yrows) (put := fun s v => {s with yrows := v}) (aO kn (ao 0 rfl aR) (aK 0 rfl aQ) (aJ 0 aP)))
  (ap (bb 5 (get := aG.ymany) (put := fun s v => {s with ymany := v}) (ah (i4 (aC 1))))
  (ap (mT (Zh := [some ⟨aG.yn, rI⟩, some ⟨aG.ypairs_here, (rM (aa rI rI rI))⟩, some ⟨aG.ythere, gY⟩, none, some ⟨aG.yrows, (rM (aa (aa rI rI rI) (aa rI rI rI) (aa rI rI rI)))⟩, some ⟨aG.ymany, rI⟩, none, none, none]) (by repeat (first | exact Le.nil | refine Le.som inferInstance ?_ | refine Le.non ?_)) (bK (cB jq (ah (af 5 rfl)) (ah (dZ hX (af 2 rfl))))) (ap (bb 5 (get := aG.ymany) (put := fun s v => {s with ymany := v}) (ah (dZ hX (af 2 rfl))))
  (cS (d6 (aM 4 rfl)) Le.refl (jr (bM 6 (get := aG.yfirst) (put := fun s v => {s with yfirst := v})) (bM 7 (get := aG.ysecond) (put := fun s v => {s with ysecond := v})) (bM 8 (get := aG.ymore) (put := fun s v => {s with ymore := v}))) (cN (Z' := [some ⟨aG.yn, rI⟩, some ⟨aG.ypairs_here, (rM (aa rI rI rI))⟩, some ⟨aG.ythere, gY⟩, none, some ⟨aG.yrows, (rM (aa (aa rI rI rI) (aa rI rI rI) (aa rI rI rI)))⟩, some ⟨aG.ymany, rI⟩, some ⟨aG.yfirst, (aa rI rI rI)⟩, some ⟨aG.ysecond, (aa rI rI rI)⟩, some ⟨aG.ymore, (aa rI rI rI)⟩]) (e8 (bK (ah (aw gN (af 6 rfl) (af 2 rfl)))) (bK (ah (aw gN (af 7 rfl) (af 2 rfl))))) (gB 2 (get := aG.ythere) (put := fun s v => {s with ythere := v}) (af 8 rfl) rfl) bW))))
  (bz (mV (af 2 rfl)))))))) (au dC rfl (au dC rfl bP))⟩
noncomputable def kO := lr.1
theorem vB : JF jv kO (Pc rI (Pc (rM (aa rI rI rI)) Pn)) (rL (aa rI rI rI)) (Pc rI (Pc (rM (aa rI rI rI)) Pn)) := lr.2
structure aE where
 yn : Int
 ypairs_here : List (Int × Int × Int)
 yfound : List (Int × Int × Int)
 ysteps : List ((Int × Int × Int) × (Int × Int × Int) × (Int × Int × Int))
 ythere : List (Int × Int × Int)
 ypair_here : Int × Int × Int
 yrows : List ((Int × Int × Int) × (Int × Int × Int) × (Int × Int × Int))
 yone : Int × Int × Int
 yother : Int × Int × Int
 ymore : Int × Int × Int
noncomputable def nh : {f : (Int × (List (Int × Int × Int)) × (List (Int × Int × Int)) × (List ((Int × Int × Int) × (Int × Int × Int) × (Int × Int × Int))) × Unit) -> Option (Bool × (Int × (List (Int × Int × Int)) × (List (Int × Int × Int)) × (List ((Int × Int × Int) × (Int × Int × Int) × (Int × Int × Int))) × Unit)) // JF ku f (Pc rI (Pc (rM (aa rI rI rI)) (Pc (rM (aa rI rI rI)) (Pc (rM (aa (aa rI rI rI) (aa rI rI rI) (aa rI rI rI))) Pn)))) rB (Pc rI (Pc (rM (aa rI rI rI)) (Pc (rM (aa rI rI rI)) (Pc (rM (aa (aa rI rI rI) (aa rI rI rI) (aa rI rI rI))) Pn))))} := ⟨_, by
 exact cV (S := aE) (N := 10) (W := [4, 5, 6, 7, 8, 9]) (c := rn) (Zn := []) (ro := rB) (Zp := [some ⟨aE.yn, rI⟩, some ⟨aE.ypairs_here, (rM (aa rI rI rI))⟩, some ⟨aE.yfound, (rM (aa rI rI rI))⟩, some ⟨aE.ysteps, (rM (aa (aa rI rI rI) (aa rI rI rI) (aa rI rI rI)))⟩]) (Zr := [some ⟨aE.yn, rI⟩, some ⟨aE.ypairs_here, (rM (aa rI rI rI))⟩, some ⟨aE.yfound, (rM (aa rI rI rI))⟩, some ⟨aE.ysteps, (rM (aa (aa rI rI rI) (aa rI rI rI) (aa rI rI rI)))⟩, none, none, none, none, none, none]) (init := (fun p => (⟨p.1, p.2.1, p.2.2.1, p.2.2.2.1, [], (0, 0, 0), [], (0, 0, 0), (0, 0, 0), (0, 0, 0)⟩ : aE))) (aA (get := aE.yn) dC (fun _ => rfl) fun _ => (aA (get := aE.ypairs_here) dC (fun _ => rfl) fun _ => (aA (get := aE.yfound) dC (fun _ => rfl) fun _ => (aA (get := aE.ysteps) dC (fun _ => rfl) fun _ => bZ))))
  (ap (bb 4 (get := aE.ythere) (put := fun s v => {s with ythere := v}) oF)
  (ap (cS (d6 (aM 1 rfl)) Le.refl (bM 5 (get := aE.ypair_here) (put := fun s v => {s with ypair_here := v})) (gB 4 (get := aE.ythere) (put := fun s v => {s with ythere := v}) (af 5 rfl) rfl))
  (ap (bb 6 (get := aE.yrows) (put := fun s v => {s with yrows := v}) (aO kn (ao 0 rfl aR) (aK 0 rfl aQ) (aJ 0 aP)))
  (ap (cS (d6 (aM 3 rfl)) Le.refl (jr (bM 7 (get := aE.yone) (put := fun s v => {s with yone := v})) (bM 8 (get := aE.yother) (put := fun s v => {s with yother := v})) (bM 9 (get := aE.ymore) (put := fun s v => {s with ymore := v}))) (ap (cN (Z' := [some ⟨aE.yn, rI⟩, some ⟨aE.ypairs_here, (rM (aa rI rI rI))⟩, some ⟨aE.yfound, (rM (aa rI rI rI))⟩, some ⟨aE.ysteps, (rM (aa (aa rI rI rI) (aa rI rI rI) (aa rI rI rI)))⟩, some ⟨aE.ythere, gY⟩, none, some ⟨aE.yrows, (rL (aa (aa rI rI rI) (aa rI rI rI) (aa rI rI rI)))⟩, some ⟨aE.yone, (aa rI rI rI)⟩, some ⟨aE.yother, (aa rI rI rI)⟩, some ⟨aE.ymore, (aa rI rI rI)⟩]) (jp (bK (ah (aw iM (af 7 rfl) (af 4 rfl)))) (jp (bK (ah (aw iM (af 8 rfl) (af 4 rfl)))) (bK (ah (aw gN (af 9 rfl) (af 4 rfl)))))) (bz (ah (mU false))) bW)
  (ap (cN (Z' := [some ⟨aE.yn, rI⟩, some ⟨aE.ypairs_here, (rM (aa rI rI rI))⟩, some ⟨aE.yfound, (rM (aa rI rI rI))⟩, some ⟨aE.ysteps, (rM (aa (aa rI rI rI) (aa rI rI rI) (aa rI rI rI)))⟩, some ⟨aE.ythere, gY⟩, none, some ⟨aE.yrows, (rL (aa (aa rI rI rI) (aa rI rI rI) (aa rI rI rI)))⟩, some ⟨aE.yone, (aa rI rI rI)⟩, some ⟨aE.yother, (aa rI rI rI)⟩, some ⟨aE.ymore, (aa rI rI rI)⟩]) (e8 (bK (lj qP (cx (aM 7 rfl) (aM 8 rfl) (aM 9 rfl)) (af 6 rfl))) (bK (lj qP (cx (aM 8 rfl) (aM 7 rfl) (aM 9 rfl)) (af 6 rfl)))) (bz (ah (mU false))) bW)
  (gB 4 (get := aE.ythere) (put := fun s v => {s with ythere := v}) (af 9 rfl) rfl))))
  (bz (AA (Z' := [some ⟨aE.yn, rI⟩, some ⟨aE.ypairs_here, (rM (aa rI rI rI))⟩, some ⟨aE.yfound, (rM (aa rI rI rI))⟩, some ⟨aE.ysteps, (rM (aa (aa rI rI rI) (aa rI rI rI) (aa rI rI rI)))⟩, some ⟨aE.ythere, gY⟩, none, some ⟨aE.yrows, (rL (aa (aa rI rI rI) (aa rI rI rI) (aa rI rI rI)))⟩, none, none, none]) (lj dn (mV (af 4 rfl)) (af 2 rfl)) (qQ 2 dn rfl rfl (aO vB (ao 0 rfl (ao 1 rfl aR)) (aK 0 rfl (bU 1 rfl aQ)) (aJ 0 (bT 1 (get := aE.ypairs_here) (put := fun s v => {s with ypairs_here := v}) (h := aP))))))))))) (au dC rfl (au dC rfl (au dC rfl (au dC rfl bP))))⟩
noncomputable def mB := nh.1
theorem wK : JF ku mB (Pc rI (Pc (rM (aa rI rI rI)) (Pc (rM (aa rI rI rI)) (Pc (rM (aa (aa rI rI rI) (aa rI rI rI) (aa rI rI rI))) Pn)))) rB (Pc rI (Pc (rM (aa rI rI rI)) (Pc (rM (aa rI rI rI)) (Pc (rM (aa (aa rI rI rI) (aa rI rI rI) (aa rI rI rI))) Pn)))) := nh.2
structure aT where
 yscript : List Int
 yturn : Int
 yn : Int
 ypairs_here : List (Int × Int × Int)
 ytime : Int
 ypile_here : List Int
 ysome : List (Int × Int × Int)
 yfound : List (Int × Int × Int)
 ysteps : List ((Int × Int × Int) × (Int × Int × Int) × (Int × Int × Int))
 yhanded : (List (Int × Int × Int)) × (List (Int × Int × Int)) × (List ((Int × Int × Int) × (Int × Int × Int) × (Int × Int × Int)))
 ytold : Bool
noncomputable def uA : {f : ((List Int) × Unit) -> Option (Bool × ((List Int) × Unit)) // JF jw f (Pc (rM rI) Pn) rB (Pc (rM rI) Pn)} := ⟨_, by
 exact cV (S := aT) (N := 11) (W := [1, 2, 3, 4, 5, 6, 7, 8, 9, 10]) (c := xN) (Zn := []) (ro := rB) (Zp := [some ⟨aT.yscript, (rM rI)⟩]) (Zr := [some ⟨aT.yscript, (rM rI)⟩, none, none, none, none, none, none, none, none, none, none]) (init := (fun p => (⟨p.1, 0, 0, [], 0, [], [], [], [], ([], [], []), false⟩ : aT))) (aA (get := aT.yscript) dC (fun _ => rfl) fun _ => bZ)
  (ap (cS (fK (ah (aC 8))) Le.refl (bM 1 (get := aT.yturn) (put := fun s v => {s with yturn := v})) (ap (nB (aO wM (ao 0 rfl (cj (ah (aw gL (aC 7) (af 1 rfl))) aR)) (bU 0 rfl (cg aQ)) (bT 0 (get := aT.yscript) (put := fun s v => {s with yscript := v}) (h := cf aP))) (xF (bM 2 (get := aT.yn) (put := fun s v => {s with yn := v})) (bM 3 (get := aT.ypairs_here) (put := fun s v => {s with ypairs_here := v}))))
  (cS (Zh := [some ⟨aT.yscript, (rM rI)⟩, some ⟨aT.yturn, rI⟩, some ⟨aT.yn, rI⟩, some ⟨aT.ypairs_here, (rM (aa rI rI rI))⟩, none, none, none, none, none, none, none]) (fK (ah (aC 3))) (by repeat (first | exact Le.nil | refine Le.som inferInstance ?_ | refine Le.non ?_)) (bM 4 (get := aT.ytime) (put := fun s v => {s with ytime := v})) (ap (bb 5 (get := aT.ypile_here) (put := fun s v => {s with ypile_here := v}) (aO oH (ao 0 rfl (cj (ah (aw cw (aw cw (aw gL (aC 7) (af 1 rfl)) (aC 1)) (aw gL (aC 2) (af 4 rfl)))) aR)) (bU 0 rfl (cg aQ)) (bT 0 (get := aT.yscript) (put := fun s v => {s with yscript := v}) (h := cf aP))))
  (ap (lM 5 (get := aT.ypile_here) (put := fun s v => {s with ypile_here := v}) (ah (aw db (aw gM (af 5 rfl) (aC 0)) (aw db (aC 10) (aC 6)))) (aC 0) rfl)
  (ap (lM 5 (get := aT.ypile_here) (put := fun s v => {s with ypile_here := v}) (ah (aw cw (aw gM (af 5 rfl) (aC 2)) (aC 50))) (aC 2) rfl)
  (ap (nB (aO yX (ao 2 rfl (ao 3 rfl (ao 5 rfl aR))) (aK 2 rfl (bU 3 rfl (bU 5 rfl aQ))) (aJ 2 (bT 3 (get := aT.ypairs_here) (put := fun s v => {s with ypairs_here := v}) (h := bT 5 (get := aT.ypile_here) (put := fun s v => {s with ypile_here := v}) (h := aP))))) (jr (bM 6 (get := aT.ysome) (put := fun s v => {s with ysome := v})) (bM 7 (get := aT.yfound) (put := fun s v => {s with yfound := v})) (bM 8 (get := aT.ysteps) (put := fun s v => {s with ysteps := v}))))
  (ap (bb 9 (get := aT.yhanded) (put := fun s v => {s with yhanded := v}) (cx (mW (af 6 rfl)) (mW (af 7 rfl)) (mW (af 8 rfl))))
  (ap (bb 10 (get := aT.ytold) (put := fun s v => {s with ytold := v}) (aO qS (ao 2 rfl (cj (li A5 (aM 9 rfl)) (cj (li A4 (aM 9 rfl)) (cj (li tR (aM 9 rfl)) aR)))) (aK 2 rfl (cg (cg (cg aQ)))) (aJ 2 (cf (cf (cf aP))))))
  (ap (cN (Z' := [some ⟨aT.yscript, (rM rI)⟩, some ⟨aT.yturn, rI⟩, some ⟨aT.yn, rI⟩, some ⟨aT.ypairs_here, (rM (aa rI rI rI))⟩, some ⟨aT.ytime, rI⟩, some ⟨aT.ypile_here, (rL rI)⟩, some ⟨aT.ysome, (rM (aa rI rI rI))⟩, some ⟨aT.yfound, (rM (aa rI rI rI))⟩, some ⟨aT.ysteps, (rM (aa (aa rI rI rI) (aa rI rI rI) (aa rI rI rI)))⟩, some ⟨aT.yhanded, (aa (rM (aa rI rI rI)) (rM (aa rI rI rI)) (rM (aa (aa rI rI rI) (aa rI rI rI) (aa rI rI rI))))⟩, some ⟨aT.ytold, rB⟩]) (jp (Z' := [some ⟨aT.yscript, (rM rI)⟩, some ⟨aT.yturn, rI⟩, some ⟨aT.yn, rI⟩, some ⟨aT.ypairs_here, (rM (aa rI rI rI))⟩, some ⟨aT.ytime, rI⟩, some ⟨aT.ypile_here, (rL rI)⟩, some ⟨aT.ysome, (rM (aa rI rI rI))⟩, some ⟨aT.yfound, (rM (aa rI rI rI))⟩, some ⟨aT.ysteps, (rM (aa (aa rI rI rI) (aa rI rI rI) (aa rI rI rI)))⟩, some ⟨aT.yhanded, (aa (rM (aa rI rI rI)) (rM (aa rI rI rI)) (rM (aa (aa rI rI rI) (aa rI rI rI) (aa rI rI rI))))⟩, some ⟨aT.ytold, rB⟩]) (vx (bK (ah (nC AB (af 10 rfl) (BA "bool"))))) (bK (cB iJ (ah (af 10 rfl)) (aO wK (ao 2 rfl (ao 6 rfl (ao 7 rfl (ao 8 rfl aR)))) (aK 2 rfl (bU 6 rfl (bU 7 rfl (bU 8 rfl aQ)))) (aJ 2 (bT 6 (get := aT.ysome) (put := fun s v => {s with ysome := v}) (h := bT 7 (get := aT.yfound) (put := fun s v => {s with yfound := v}) (h := bT 8 (get := aT.ysteps) (put := fun s v => {s with ysteps := v}) (h := aP))))))))) sM bW)
  (cN (Z' := [some ⟨aT.yscript, (rM rI)⟩, some ⟨aT.yturn, rI⟩, some ⟨aT.yn, rI⟩, some ⟨aT.ypairs_here, (rM (aa rI rI rI))⟩, some ⟨aT.ytime, rI⟩, some ⟨aT.ypile_here, (rL rI)⟩, some ⟨aT.ysome, (rM (aa rI rI rI))⟩, some ⟨aT.yfound, (rM (aa rI rI rI))⟩, some ⟨aT.ysteps, (rM (aa (aa rI rI rI) (aa rI rI rI) (aa rI rI rI)))⟩, some ⟨aT.yhanded, (aa (rM (aa rI rI rI)) (rM (aa rI rI rI)) (rM (aa (aa rI rI rI) (aa rI rI rI) (aa rI rI rI))))⟩, some ⟨aT.ytold, rB⟩]) (bK (qQ 9 iJ rfl rfl (cx (aM 6 rfl) (aM 7 rfl) (aM 8 rfl)))) sM bW)))))))))))
  (bz (ah (mU true)))) (au dC rfl bP)⟩
noncomputable def tT := uA.1
theorem BD : JF jw tT (Pc (rM rI) Pn) rB (Pc (rM rI) Pn) := uA.2
theorem yN (c k : Int) : ∃ m, mD (c, k, ()) = some (m, c, k, ()) /\ 0 <= m /\ m < 2147483587 := by
 have d4 : decide ((0 : Int) < 2147483647) = true := by decide
 have d5 : decide ((0 : Int) < 2147483629) = true := by decide
 have d3 : decide ((0 : Int) < 2147483587) = true := by decide
 have m1 : ∀ q : Int, hU q 48271 = true := fun q => ld oM
 have m2 : ∀ q : Int, hU q 69621 = true := fun q => ld oM
 have m3 : ∀ q : Int, hU (q % 2147483647) (q % 2147483647) = true := fun q => ld oM
 have m4 : ∀ q : Int, hU (q % 2147483629) (q % 2147483629) = true := fun q => ld oM
 unfold mD ni;simp only [TT.tSeq, bind_some, map_some, bn d4, bn d5, bn d3, bn (m1 _), bn (m2 _), bn (m3 _), bn (m4 _)];exact ⟨_, rfl, Int.emod_nonneg _ dC, Int.emod_lt_of_pos _ dC⟩
theorem BX : decide ((0 : Int) <= 18 /\ (18 : Int) <= 1000000 /\ Int.natAbs 10 < 2 ^ 64) = true := by decide
theorem BP {a b c : Int} : gE ([a, b, c] : List Int).length = true := ej (by simp)
theorem qv (r : List Int) (k : Nat) : ∃ p, n8 (r, (k : Int), ()) = some (p, r, (k : Int), ()) /\ p.length = 3 := by
 have m1 : ∀ (q : Int) (b : Bool), hU q (if b = true then 1 else 0) = true := fun q b => ld (by cases b <;> simp)
 have m2 : hU 97 (k : Int) = true := ld oM;unfold n8 o4;simp only [TT.tSeq, bind_some, map_some];cases hd : decide ((k : Int) < (r.length : Int))
 ·simp only [Bool.false_eq_true, if_false, bind_some, map_some, bn BX, bn (m1 _ _), bn m2, bn BP]
  exact ⟨_, rfl, rfl⟩
 ·have hk : k < r.length := by simpa using hd
  simp only [if_true, bind_some, map_some, gU hk, bn BX, bn (m1 _ _), bn m2, bn BP];exact ⟨_, rfl, rfl⟩
theorem Cg {a b : Int} : gE ([a, b] : List Int).length = true := ej (by simp)
theorem BE {a : Int} {ys : List Int} : nI (fun a_1 => Py.ok TT.rI a_1 && Py.ok TT.rI a && decide (min (Py.k TT.rI) (Py.k TT.rI) <= 50)) (fun a_1 => a_1 == a) ys = some (ys.any fun z => z == a) := by
 unfold nI;rw [if_pos (List.all_eq_true.mpr fun _ _ => qE)]
theorem eW {p : List Int} (hp : p.length = 3) {m : Int} (hm : 1 <= m /\ m <= 10000000000) : ∃ d p', n6 (p, m, ()) = some (d, p', m, ()) /\ p'.length = 3 /\ 0 <= d /\ d < m := by
 match p, hp with
 | [a, b, c], _ =>
  have a0 : cy [a, b, c] 0 = some a := rfl;have a2 : cy [a, b, c] 2 = some c := rfl;have b1 : cy [a, b, c + 1] 1 = some b := rfl;have b2 : cy [a, b, c + 1] 2 = some (c + 1) := rfl;have i2 : fD 3 2 = some 2 := rfl;have i0 : fD 3 0 = some 0 := rfl;have l3 : [a, b, c].length = 3 := rfl;have e3 : [a, b, c].set 2 (c + 1) = [a, b, c + 1] := rfl;have e4 : ∀ x, [a, b, c].set 0 x = [x, b, c] := fun _ => rfl
  have dm : decide (0 < m) = true := decide_eq_true oM;have fd : ∀ x, rf x m = true := fun x => AH (by
   refine decide_eq_true ⟨by omega, ?_⟩;have h1 : m.natAbs < 2 ^ 64 := by omega
   have h2 := (Nat.log2_lt (n := m.natAbs) (k := 64) oM).mpr h1;omega)
  obtain ⟨q, hq, _, _⟩ := yN b (c + 1);unfold n6 oZ;simp only [TT.tSeq, bind_some, map_some, a0, bn Cg, BE];cases ([0, -1] : List Int).any fun z => z == a
  ·simp only [Bool.false_eq_true, if_false, bind_some, map_some, a0, bn dm, bn (fd _), l3, i0, e4]
   exact ⟨_, _, rfl, rfl, Int.emod_nonneg _ oM, Int.emod_lt_of_pos _ oM⟩
  ·simp only [if_true, bind_some, map_some, a2, l3, i2, e3, b1, b2, hq, bn dm]
   exact ⟨_, _, rfl, rfl, Int.emod_nonneg _ oM, Int.emod_lt_of_pos _ oM⟩
noncomputable abbrev S3 := K3 × K3 × K3
theorem memT_iff {ks : List K3} {p : K3} : ce ks p = true ↔ p ∈ ks := by
 unfold ce;rw [List.any_eq_true];constructor
 ·rintro ⟨x, hx, e⟩; rw [<- eq_of_beq e]; exact hx
 ·intro h; exact ⟨p, h, by simp⟩
theorem memT_no {ks : List K3} {p : K3} : ce ks p = false ↔ p ∉ ks := by
 rw [<- memT_iff]; cases ce ks p <;> simp
theorem eT {ks : List K3} {p : K3} (h : p ∉ ks) : cX ks p = ks ++ [p] := by
 unfold cX; rw [if_neg (by rw [memT_no.mpr h]; decide)]
theorem jd {ks : List K3} {p : K3} (h : p ∈ ks) : cX ks p = ks := by
 unfold cX; rw [if_pos (memT_iff.mpr h)]
theorem addT_mem {ks : List K3} {p q : K3} : q ∈ cX ks p ↔ q ∈ ks \/ q = p := by
 by_cases h : p ∈ ks
 ·rw [jd h]
  constructor
  ·exact .inl
  ·rintro (z | rfl)
   ·exact z
   ·exact h
 ·rw [eT h]; simp
theorem lT {ks : List K3} {p : K3} (h : ks.Nodup) : (cX ks p).Nodup := by
 by_cases hp : p ∈ ks
 ·rw [jd hp]; exact h
 ·rw [eT hp, List.nodup_append]
  exact ⟨h, by simp, fun a ha b hb e => by rw [List.mem_singleton.mp hb] at e; subst e; exact hp ha⟩
theorem fold_mem : ∀ {ps ks : List K3} {q : K3}, q ∈ ps.foldl cX ks ↔ q ∈ ks \/ q ∈ ps := by
 intro ps
 induction ps with
 | nil => simp
 | cons p ps ih =>
  intro ks q;rw [List.foldl_cons, ih, addT_mem];simp [or_assoc]
theorem oQ : ∀ {ps ks : List K3}, ks.Nodup -> (ps.foldl cX ks).Nodup := by
 intro ps
 induction ps with
 | nil => exact fun h => h
 | cons p ps ih => intro ks h; rw [List.foldl_cons]; exact ih (lT h)
theorem iY : ∀ {l P : List K3}, l.Nodup -> (∀ x ∈ l, x ∈ P) -> l.length <= P.length := by
 intro l
 induction l with
 | nil => intro P _ _; exact Nat.zero_le _
 | cons x l ih =>
  intro P h hs;rw [List.nodup_cons] at h;have hx : x ∈ P := hs x (by simp);have h1 := ih (P := P.erase x) h.2 (fun y hy => (List.mem_erase_of_ne (by intro e; subst e; exact h.1 hy)).mpr (hs y (by simp [hy])));rw [List.length_erase_of_mem hx] at h1;have : 0 < P.length := List.length_pos_of_mem hx;simp only [List.length_cons];omega
noncomputable def stp (c : List K3 × List S3) (x : S3) : List K3 × List S3 := if (ce c.1 x.1 && (ce c.1 x.2.1 && !ce c.1 x.2.2)) = true then (cX c.1 x.2.2, c.2 ++ [x]) else c
theorem gw (c : List K3 × List S3) (x : S3) : (stp c x = c /\ (x.1 ∈ c.1 -> x.2.1 ∈ c.1 -> x.2.2 ∈ c.1)) \/ (stp c x = (c.1 ++ [x.2.2], c.2 ++ [x]) /\ x.1 ∈ c.1 /\ x.2.1 ∈ c.1 /\ x.2.2 ∉ c.1) := by
 unfold stp;split
 ·rename_i h
  simp only [Bool.and_eq_true, Bool.not_eq_true', memT_iff, memT_no] at h;exact .inr ⟨by rw [eT h.2.2], h⟩
 ·rename_i h
  refine .inl ⟨rfl, fun h1 h2 => ?_⟩;by_cases h3 : x.2.2 ∈ c.1
  ·exact h3
  ·exact absurd (by simp only [Bool.and_eq_true, Bool.not_eq_true', memT_iff, memT_no]; exact ⟨h1, h2, h3⟩) h
theorem mN : ∀ (ST : List S3) (c : List K3 × List S3), c.1.length <= (ST.foldl stp c).1.length := by
 intro ST
 induction ST with
 | nil => intro c; exact Nat.le_refl _
 | cons x ST ih =>
  intro c;rw [List.foldl_cons];refine Nat.le_trans ?_ (ih _);rcases gw c x with ⟨e, _⟩ | ⟨e, _⟩ <;> rw [e]
  ·exact Nat.le_refl _
  ·simp
theorem pv : ∀ (ST : List S3) (c : List K3 × List S3), (ST.foldl stp c).1.length = c.1.length -> ST.foldl stp c = c /\ ∀ x ∈ ST, x.1 ∈ c.1 -> x.2.1 ∈ c.1 -> x.2.2 ∈ c.1 := by
 intro ST
 induction ST with
 | nil => intro c _; exact ⟨rfl, fun x hx => by cases hx⟩
 | cons x ST ih =>
  intro c h;rw [List.foldl_cons] at h ⊢;have hl := mN ST (stp c x);rcases gw c x with ⟨e, hc⟩ | ⟨e, _⟩
  ·rw [e] at h ⊢
   obtain ⟨h1, h2⟩ := ih c h;refine ⟨h1, fun y hy => ?_⟩;rcases List.mem_cons.mp hy with rfl | hy
   ·exact hc
   ·exact h2 y hy
  ·rw [e] at hl h
   simp only [List.length_append, List.length_cons, List.length_nil] at hl;omega
theorem mO {J : List K3 × List S3 -> Prop} : ∀ (ST : List S3) (c : List K3 × List S3), (∀ c x, x ∈ ST -> J c -> J (stp c x)) -> J c -> J (ST.foldl stp c) := by
 intro ST
 induction ST with
 | nil => intro c _ h; exact h
 | cons x ST ih =>
  intro c h hc;rw [List.foldl_cons];exact ih _ (fun c y hy => h c y (by simp [hy])) (h c x (by simp) hc)
noncomputable def cY (n : Int) : List S3 := ((fQ (n, ())).map (·.1)).getD []
noncomputable def bG (n : Int) : List K3 := ((fR (n, ())).map (·.1)).getD []
noncomputable def Ak (n : Int) : Bool := match fQ (n, ()) with | some (_, m, _) => m == n | none => false
noncomputable def Am (n : Int) : Bool := match fR (n, ()) with | some (_, m, _) => m == n | none => false
theorem Ai {n : Int} (h : Ak n = true) : fQ (n, ()) = some (cY n, n, ()) := by
 unfold Ak at h;split at h
 ·rename_i l m u e
  have hm : m = n := eq_of_beq h;subst hm;unfold cY; rw [e]; rfl
 ·cases h
theorem Al {n : Int} (h : Am n = true) : fR (n, ()) = some (bG n, n, ()) := by
 unfold Am at h;split at h
 ·rename_i l m u e
  have hm : m = n := eq_of_beq h;subst hm;unfold bG; rw [e]; rfl
 ·cases h
noncomputable def sX (n : Int) : Bool := Ak n && (Am n && (decide ((bG n).length <= 24) && (decide ((cY n).length <= 96) && ((cY n).all fun x => ce (bG n) x.1 && (ce (bG n) x.2.1 && ce (bG n) x.2.2)))))
noncomputable def N14 (n : Int) : Prop := 1 <= n /\ n <= 4
theorem zg : sX 1 = true /\ sX 2 = true /\ sX 3 = true /\ sX 4 = true := by decide +kernel
theorem N14.cases {n : Int} (h : N14 n) : n = 1 \/ n = 2 \/ n = 3 \/ n = 4 := by unfold N14 at h; omega
structure v4 (n : Int) : Prop where
 st : fQ (n, ()) = some (cY n, n, ())
 pn : fR (n, ()) = some (bG n, n, ())
 pl : (bG n).length <= 24
 sl : (cY n).length <= 96
 sp : ∀ x ∈ cY n, x.1 ∈ bG n /\ x.2.1 ∈ bG n /\ x.2.2 ∈ bG n
theorem nq {n : Int} (h : N14 n) : v4 n := by
 have hc : sX n = true := by
  obtain ⟨a, b, c, d⟩ := zg;rcases h.cases with rfl | rfl | rfl | rfl <;> assumption
 simp only [sX, Bool.and_eq_true, decide_eq_true_eq, List.all_eq_true, memT_iff] at hc;exact ⟨Ai hc.1, Al hc.2.1, hc.2.2.1, hc.2.2.2.1, hc.2.2.2.2⟩
structure Bp (P : List K3) (c : List K3 × List S3) : Prop where
 nd : c.1.Nodup
 sub : ∀ x ∈ c.1, x ∈ P
 len : c.2.length <= c.1.length
theorem Bp.stp {P : List K3} {c : List K3 × List S3} {x : S3} (h : Bp P c) (hx : x.2.2 ∈ P) : Bp P (stp c x) := by
 rcases gw c x with ⟨e, _⟩ | ⟨e, _, _, hn⟩ <;> rw [e]
 ·exact h
 ·refine ⟨?_, ?_, by simp only [List.length_append, List.length_cons, List.length_nil]; have := h.len; omega⟩
  ·rw [<- eT hn]; exact lT h.nd
  ·intro y hy
   rcases List.mem_append.mp hy with hy | hy
   ·exact h.sub y hy
   ·rw [List.mem_singleton.mp hy]; exact hx
theorem Bp.le {n : Int} (hs : v4 n) {c : List K3 × List S3} (h : Bp (bG n) c) : c.1.length <= 24 /\ c.2.length <= 24 := by
 have := iY h.nd h.sub
 have := hs.pl
 have := h.len
 omega
theorem wE {n : Int} (hs : v4 n) {ps : List K3} {many : Int} (c : List K3 × List S3) (hc : Bp (bG n) c) {put : ar -> S3 -> ar} {b : ar -> Option (TR ar (List K3 × List S3))}
  (hb : ∀ s x, x ∈ cY n -> s.xn = n -> s.xpairs = ps -> s.xmany = many -> s.xsilent.length <= 24 -> s.xsteps.length <= 24 -> ∃ s', b (put s x) = some (.nx s') /\ s'.xn = n /\ s'.xpairs = ps /\ s'.xmany = many /\ (s'.xsilent, s'.xsteps) = stp (s.xsilent, s.xsteps) x)
  (s : ar) (h1 : s.xn = n) (h2 : s.xpairs = ps) (h3 : s.xmany = many) (h4 : (s.xsilent, s.xsteps) = c) :
  ∃ s', dc put b (cY n) s = some (.nx s') /\ s'.xn = n /\ s'.xpairs = ps /\ s'.xmany = many /\ (s'.xsilent, s'.xsteps) = (cY n).foldl stp c := by
 refine hV (S := ar) (fun k s => s.xn = n /\ s.xpairs = ps /\ s.xmany = many /\ (s.xsilent, s.xsteps) = ((cY n).take k).foldl stp c) ⟨h1, h2, h3, by rw [h4]; rfl⟩ ?_ (fun s h => ⟨h.1, h.2.1, h.2.2.1, by rw [h.2.2.2, List.take_length]⟩);rintro k s x hx ⟨e1, e2, e3, e4⟩;have hm := List.mem_of_getElem? hx;have hbp : Bp (bG n) (s.xsilent, s.xsteps) := by
  rw [e4];exact mO _ _ (fun c y hy h => h.stp (hs.sp y (List.mem_of_mem_take hy)).2.2) hc
 obtain ⟨b1, b2⟩ := hbp.le hs;obtain ⟨s', g0, g1, g2, g3, g4⟩ := hb s x hm e1 e2 e3 b1 b2;refine ⟨s', g0, g1, g2, g3, ?_⟩;rw [g4, e4, List.take_succ, hx];simp [List.foldl_append]
theorem A3 {n : Int} (hs : v4 n) {ps : List K3} {ft : ar -> Option (Bool × ar)} {fb : ar -> Option (TR ar (List K3 × List S3))} {J : List K3 × List S3 -> Prop} (hJ : ∀ c x, x ∈ cY n -> J c -> J (stp c x))
  (hft : ∀ s, ft s = some (decide (s.xmany < (s.xsilent.length : Int)), s)) (hfb : ∀ s, s.xn = n -> s.xpairs = ps -> Bp (bG n) (s.xsilent, s.xsteps) -> ∃ s', fb s = some (.nx s') /\ s'.xn = n /\ s'.xpairs = ps /\ s'.xmany = (s.xsilent.length : Int) /\ (s'.xsilent, s'.xsteps) = (cY n).foldl stp (s.xsilent, s.xsteps)) :
  ∀ (k fuel : Nat) (s : ar), 25 - s.xsilent.length <= k -> k + 2 <= fuel -> s.xmany < (s.xsilent.length : Int) -> s.xn = n -> s.xpairs = ps -> Bp (bG n) (s.xsilent, s.xsteps) -> J (s.xsilent, s.xsteps) ->
   ∃ a, fB ft fb fuel s = some a /\ ∃ s', a = .nx s' /\ s'.xn = n /\ s'.xpairs = ps /\ Bp (bG n) (s'.xsilent, s'.xsteps) /\ J (s'.xsilent, s'.xsteps) /\ ∀ x ∈ cY n, x.1 ∈ s'.xsilent -> x.2.1 ∈ s'.xsilent -> x.2.2 ∈ s'.xsilent := by
 intro k
 induction k with
 | zero =>
  intro fuel s hk hf hm h1 h2 hb hj
  have := (hb.le hs).1
  dsimp only at this;omega
 | succ k ih =>
  intro fuel s hk hf hm h1 h2 hb hj;obtain ⟨f, rfl⟩ : ∃ f, fuel = f + 1 := ⟨fuel - 1, by omega⟩;obtain ⟨s1, e1, g1, g2, g3, g4⟩ := hfb s h1 h2 hb;have hb1 : Bp (bG n) (s1.xsilent, s1.xsteps) := by
   rw [g4]; exact mO _ _ (fun c y hy h => h.stp (hs.sp y hy).2.2) hb
  have hj1 : J (s1.xsilent, s1.xsteps) := by
   rw [g4]; exact mO _ _ (fun c y hy h => hJ c y hy h) hj
  have hl := mN (cY n) (s.xsilent, s.xsteps);rw [<- g4] at hl;dsimp only at hl;have e2 : fB ft fb (f + 1) s = fB ft fb f s1 := by
   simp only [fB, hft s, bind_some, show decide (s.xmany < (s.xsilent.length : Int)) = true from decide_eq_true hm, if_true, e1]
  rw [e2];by_cases hq : s1.xsilent.length = s.xsilent.length
  ·obtain ⟨f2, rfl⟩ : ∃ f2, f = f2 + 1 := ⟨f - 1, by omega⟩
   obtain ⟨p1, p2⟩ := pv (cY n) (s.xsilent, s.xsteps) (by rw [<- g4]; exact hq);rw [p1] at g4;have e3 : fB ft fb (f2 + 1) s1 = some (.nx s1) := by
    simp only [fB, hft s1, bind_some, show decide (s1.xmany < (s1.xsilent.length : Int)) = false from decide_eq_false oM, Bool.false_eq_true, if_false]
   refine ⟨_, e3, s1, rfl, g1, g2, hb1, hj1, ?_⟩;rw [(Prod.mk.inj g4).1];exact p2
  ·exact ih f s1 oM oM oM g1 g2 hb1 hj1
theorem rH {α γ : Type} {o : Option α} {k : α -> Option γ} {P : α -> Prop} (Q : Option γ -> Prop) (h : ∃ a, o = some a /\ P a) (hk : ∀ a, P a -> Q (k a)) : Q (o.bind k) := by
 obtain ⟨a, e, p⟩ := h;rw [e]; exact hk a p
theorem vY {n : Int} (hs : v4 n) {ps : List K3} (hl : ps.length <= 100) (hp : ∀ x ∈ ps, x ∈ bG n) {J : List K3 × List S3 -> Prop} (hJ0 : J (ps.foldl cX [], [])) (hJ : ∀ c x, x ∈ cY n -> J c -> J (stp c x)) :
  ∃ D st, fw (n, ps, ()) = some (((bG n).filter (ce D), st), n, ps, ()) /\ Bp (bG n) (D, st) /\ J (D, st) /\ (∀ x ∈ cY n, x.1 ∈ D -> x.2.1 ∈ D -> x.2.2 ∈ D) := by
 have hz0 : gE ([] : List S3).length = true := ej (by simp);have hB0 : Bp (bG n) (ps.foldl cX [], []) := ⟨oQ List.nodup_nil, fun x hx => by
  rcases fold_mem.mp hx with h | h
  ·cases h
  ·exact hp x h, Nat.zero_le _⟩
 unfold fw gW;simp only [TT.tSeq, bind_some, map_some, bn (ej (n := ps.length) oM)];rw [vp (f := fun x => (x, true)) (fun _ _ => rfl) (fun _ _ => rfl)];have ha : ((ps.map fun x => (x, true)).all fun a => a.2) = true := by rw [List.all_map, List.all_eq_true]; exact fun _ _ => rfl
 have hm : (ps.map fun x => (x, true)).map (fun x => x.1) = ps := by rw [List.map_map]; exact List.map_id' ps
 simp only [bind_some, map_some, bn ha, hm, bn hz0];generalize hD : ps.foldl cX [] = D0 at hJ0 hB0 ⊢;simp only [Option.bind_assoc];refine rH (P := fun a => ∃ s', a = TR.nx s' /\ s'.xn = n /\ s'.xpairs = ps /\ Bp (bG n) (s'.xsilent, s'.xsteps) /\ J (s'.xsilent, s'.xsteps) /\ ∀ x ∈ cY n, x.1 ∈ s'.xsilent -> x.2.1 ∈ s'.xsilent -> x.2.2 ∈ s'.xsilent) (fun o => ∃ D st, o = some (((bG n).filter (ce D), st), n, ps, ()) /\ Bp (bG n) (D, st) /\ J (D, st) /\ (∀ x ∈ cY n, x.1 ∈ D -> x.2.1 ∈ D -> x.2.2 ∈ D)) ?_ ?_
 ·refine A3 hs hJ (fun s => rfl) (fun s h1 h2 hb => ?_) 25 100 _ oM oM (by show (-1 : Int) < _; omega) rfl rfl hB0 hJ0
  simp only [TT.tSeq, h1, hs.st, map_some, bind_some];refine wE hs (s.xsilent, s.xsteps) hb ?_ _ rfl h2 rfl rfl;intro s2 x hx q1 q2 q3 q4 q5;dsimp only;rcases gw (s2.xsilent, s2.xsteps) x with ⟨e, hc⟩ | ⟨e, c1, c2, c3⟩
  ·by_cases m1 : x.1 ∈ s2.xsilent
   ·by_cases m2 : x.2.1 ∈ s2.xsilent
    ·simp only [memT_iff.mpr m1, memT_iff.mpr m2, memT_iff.mpr (hc m1 m2), if_true, Bool.not_true, bind_some, Bool.false_eq_true, if_false]
     exact ⟨_, rfl, q1, q2, q3, e.symm⟩
    ·simp only [memT_iff.mpr m1, memT_no.mpr m2, if_true, bind_some, Bool.false_eq_true, if_false]
     exact ⟨_, rfl, q1, q2, q3, e.symm⟩
   ·simp only [memT_no.mpr m1, bind_some, Bool.false_eq_true, if_false]
    exact ⟨_, rfl, q1, q2, q3, e.symm⟩
  ·simp only [memT_iff.mpr c1, memT_iff.mpr c2, memT_no.mpr c3, if_true, bind_some, Bool.not_false, bn (jV (n := s2.xsilent.length) oM), bn (jV (n := s2.xsteps.length) oM), map_some]
   refine ⟨_, rfl, q1, q2, q3, ?_⟩;rw [e, eT c3]
 ·rintro a ⟨s', rfl, g1, g2, g3, g4, g5⟩
  simp only [g1, hs.pn, map_some, bind_some, bn (ej (n := (bG n).length) (by have := hs.pl; omega))];rw [pA (p := fun x => ce s'.xsilent x) (f := fun x => x) (fun _ _ => rfl) (fun _ _ _ => rfl)];simp only [List.map_id', map_some, bind_some];exact ⟨s'.xsilent, s'.xsteps, by rw [g1, g2], g3, g4, g5⟩
end LW
namespace LW
open PySem L2 DD TT RK PySem.W
noncomputable def In (n : Int) (ps : List K3) (y : K3) : Prop := ∀ C : K3 -> Prop, (∀ p ∈ ps, C p) -> (∀ x ∈ cY n, C x.1 -> C x.2.1 -> C x.2.2) -> C y
open Classical in
noncomputable def FD (n : Int) (ps : List K3) : List K3 := (bG n).filter fun y => decide (In n ps y)
open Classical in
theorem FD_mem {n : Int} {ps : List K3} {y : K3} : y ∈ FD n ps ↔ y ∈ bG n /\ In n ps y := by unfold FD; rw [List.mem_filter, decide_eq_true_eq]
section
variable {n : Int} {ps qs : List K3} {y : K3}
theorem In.of (h : y ∈ ps) : In n ps y := fun _ h1 _ => h1 y h
theorem In.step {x : S3} (hx : x ∈ cY n) (h1 : In n ps x.1) (h2 : In n ps x.2.1) : In n ps x.2.2 := fun C a b => b x hx (h1 C a b) (h2 C a b)
open Classical in
end
noncomputable def xr (o : Option (List K3)) (x : S3) : Option (List K3) := o.bind fun D => if (ce D x.1 && (ce D x.2.1 && !ce D x.2.2)) = true then some (cX D x.2.2) else none
noncomputable def kI (p : K3) : Int := p.1 * 64 + p.2.1 * 16 + p.2.2
noncomputable def kG (p : K3) : Bool := decide (0 <= p.1 /\ p.1 < 4 /\ 0 <= p.2.1 /\ p.2.1 < 4 /\ 0 <= p.2.2 /\ p.2.2 < 16)
noncomputable def xm : List K3 -> Bool
 | [] => true
 | a :: l => (l.all fun b => decide (kI a < kI b)) && xm l
noncomputable def cR (n : Int) : List S3 := ((iR (n, ())).map (·.1)).getD []
noncomputable def okB (n : Int) : Bool := match iR (n, ()) with | some (_, m, _) => m == n | none => false
theorem An {n : Int} (h : okB n = true) : iR (n, ()) = some (cR n, n, ()) := by
 unfold okB at h;split at h
 ·rename_i l m u e
  have hm : m = n := eq_of_beq h;subst hm;unfold cR; rw [e]; rfl
 ·cases h
noncomputable def oD (l : List S3) (x : S3) : Bool := l.any fun z => z.1 == x.1 && (z.2.1 == x.2.1 && z.2.2 == x.2.2)
noncomputable def kQ (x : S3) : S3 := (x.2.1, x.1, x.2.2)
noncomputable def sW (n : Int) : Bool := xm (bG n) && ((bG n).all kG && (decide (mC (n, ()) = some (bG n, n, ())) && (okB n && (decide ((cR n).length <= 200) && ((cR n).all fun x => ce (bG n) x.1 && (ce (bG n) x.2.1 && (ce (bG n) x.2.2 && (oD (cY n) x || oD (cY n) (kQ x))))) && (cY n).all fun x => oD (cR n) x || oD (cR n) (kQ x)))))
theorem zf : sW 1 = true /\ sW 2 = true /\ sW 3 = true /\ sW 4 = true := by decide +kernel
structure tG (n : Int) : Prop where
 up : (bG n).Pairwise fun a b => kI a < kI b
 bd : ∀ y ∈ bG n, kG y = true
 pr : mC (n, ()) = some (bG n, n, ())
 br : iR (n, ()) = some (cR n, n, ())
 bl : (cR n).length <= 200
 bm : ∀ x ∈ cR n, x.1 ∈ bG n /\ x.2.1 ∈ bG n /\ x.2.2 ∈ bG n /\ (x ∈ cY n \/ kQ x ∈ cY n)
 sb : ∀ x ∈ cY n, x ∈ cR n \/ kQ x ∈ cR n
theorem zl : ∀ {l : List K3}, xm l = true -> l.Pairwise fun a b => kI a < kI b := by
 intro l
 induction l with
 | nil => intro _; exact .nil
 | cons a l ih =>
  intro h;simp only [xm, Bool.and_eq_true, List.all_eq_true, decide_eq_true_eq] at h;exact .cons h.1 (ih h.2)
theorem qJ {l : List S3} {x : S3} : oD l x = true ↔ x ∈ l := by
 unfold oD;rw [List.any_eq_true];constructor
 ·rintro ⟨z, hz, e⟩
  simp only [Bool.and_eq_true] at e;obtain ⟨z1, z2, z3⟩ := z;obtain ⟨x1, x2, x3⟩ := x;have e1 : z1 = x1 := eq_of_beq e.1;have e2 : z2 = x2 := eq_of_beq e.2.1;have e3 : z3 = x3 := eq_of_beq e.2.2;subst e1; subst e2; subst e3;exact hz
 ·intro h; exact ⟨x, h, by simp⟩
theorem qu {n : Int} (h : N14 n) : tG n := by
 have hc : sW n = true := by
  obtain ⟨a, b, c, d⟩ := zf;rcases h.cases with rfl | rfl | rfl | rfl <;> assumption
 simp only [sW, Bool.and_eq_true, decide_eq_true_eq] at hc;obtain ⟨h1, h2, h3, h4, ⟨h5, h6⟩, h7⟩ := hc;refine ⟨zl h1, List.all_eq_true.mp h2, h3, An h4, h5, fun x hx => ?_, fun x hx => ?_⟩
 ·have := List.all_eq_true.mp h6 x hx
  simp only [Bool.and_eq_true, Bool.or_eq_true, memT_iff, qJ] at this;exact this
 ·have := List.all_eq_true.mp h7 x hx
  simp only [Bool.or_eq_true, qJ] at this;exact this
theorem xl {l : List K3} (h : l.Pairwise fun a b => kI a < kI b) : l.Nodup := h.imp fun hab e => by rw [e] at hab; omega
theorem n4 : ∀ {a b : List K3}, a.Pairwise (fun x y => kI x < kI y) -> b.Pairwise (fun x y => kI x < kI y) -> (∀ x, x ∈ a ↔ x ∈ b) -> a = b := by
 intro a
 induction a with
 | nil =>
  intro b _ _ h;cases b with
  | nil => rfl
  | cons y b => exact absurd ((h y).mpr List.mem_cons_self) List.not_mem_nil
 | cons x a ih =>
  intro b ha hb h;cases b with
  | nil => exact absurd ((h x).mp List.mem_cons_self) List.not_mem_nil
  | cons y b =>
   obtain ⟨ha1, ha2⟩ := List.pairwise_cons.mp ha;obtain ⟨hb1, hb2⟩ := List.pairwise_cons.mp hb;have hxy : x = y := by
    rcases List.mem_cons.mp ((h x).mp List.mem_cons_self) with e | m
    ·exact e
    ·rcases List.mem_cons.mp ((h y).mpr List.mem_cons_self) with e | m'
     ·exact e.symm
     ·have := hb1 x m
      have := ha1 y m'
      omega
   subst hxy;congr 1;refine ih ha2 hb2 fun z => ⟨fun hz => ?_, fun hz => ?_⟩
   ·rcases List.mem_cons.mp ((h z).mp (List.mem_cons_of_mem _ hz)) with e | m
    ·subst e; have := ha1 z hz; omega
    ·exact m
   ·rcases List.mem_cons.mp ((h z).mpr (List.mem_cons_of_mem _ hz)) with e | m
    ·subst e; have := hb1 z hz; omega
    ·exact m
open Classical in
theorem vX {n : Int} (hn : N14 n) {ps : List K3} (hl : ps.length <= 100) (hp : ∀ x ∈ ps, x ∈ bG n) :
  ∃ D st, fw (n, ps, ()) = some ((FD n ps, st), n, ps, ()) /\ st.foldl xr (some (ps.foldl cX [])) = some D /\ (∀ x ∈ st, x ∈ cY n) /\ D.length = (FD n ps).length /\ D.length <= 24 /\ st.length <= 24 /\ D.Nodup /\ (∀ y, y ∈ D ↔ In n ps y) /\ ∀ y ∈ D, y ∈ bG n := by
 have hs := nq hn;have hP := qu hn;obtain ⟨D, st, e, bp, ⟨j1, j2, j3, j4, j5⟩, cl⟩ := vY hs hl hp (J := fun c => (∀ y ∈ c.1, In n ps y) /\ (∀ p ∈ ps, p ∈ c.1) /\ c.2.foldl xr (some (ps.foldl cX [])) = some c.1 /\ (∀ x ∈ c.2, x ∈ cY n) /\ ((∀ x ∈ cY n, x.1 ∈ ps -> x.2.1 ∈ ps -> x.2.2 ∈ ps) -> c.2 = [] /\ ∀ y ∈ c.1, y ∈ ps))
  ⟨fun y hy => In.of (by rcases fold_mem.mp hy with h | h; exact absurd h List.not_mem_nil; exact h), fun p h => fold_mem.mpr (.inr h), rfl, fun x hx => absurd hx List.not_mem_nil, fun _ => ⟨rfl, fun y hy => by rcases fold_mem.mp hy with h | h; exact absurd h List.not_mem_nil; exact h⟩⟩ (by
   rintro c x hx ⟨j1, j2, j3, j4, j5⟩;rcases gw c x with ⟨e, _⟩ | ⟨e, c1, c2, c3⟩
   ·rw [e]; exact ⟨j1, j2, j3, j4, j5⟩
   ·rw [e]
    refine ⟨fun y hy => ?_, fun p h => List.mem_append_left _ (j2 p h), ?_, fun z hz => ?_, fun hc => ?_⟩
    ·rcases List.mem_append.mp hy with hy | hy
     ·exact j1 y hy
     ·rw [List.mem_singleton.mp hy]; exact In.step hx (j1 _ c1) (j1 _ c2)
    ·rw [List.foldl_append, j3]
     show xr (some c.1) x = _;simp only [xr, bind_some, memT_iff.mpr c1, memT_iff.mpr c2, memT_no.mpr c3, Bool.not_false, Bool.and_self, if_true, eT c3]
    ·rcases List.mem_append.mp hz with hz | hz
     ·exact j4 z hz
     ·rw [List.mem_singleton.mp hz]; exact hx
    ·obtain ⟨g1, g2⟩ := j5 hc
     exact absurd (j2 _ (hc x hx (g2 _ c1) (g2 _ c2))) c3)
 have hm : ∀ y, y ∈ D ↔ In n ps y := fun y => ⟨j1 y, fun h => h (fun z => z ∈ D) j2 cl⟩
 have hF : (bG n).filter (ce D) = FD n ps := by
  unfold FD;congr 1;funext y;rw [Bool.eq_iff_iff, memT_iff, decide_eq_true_eq];exact hm y
 rw [hF] at e;have hle := bp.le hs;refine ⟨D, st, e, j3, j4, ?_, hle.1, hle.2, bp.nd, hm, bp.sub⟩;refine Nat.le_antisymm (iY bp.nd fun y hy => FD_mem.mpr ⟨bp.sub y hy, j1 y hy⟩) (iY ?_ fun y hy => (hm y).mpr (FD_mem.mp hy).2);exact (xl (hP.up.filter _))
theorem qc {n : Int} (hn : N14 n) (ps : List K3) : (FD n ps).Pairwise fun a b => kI a < kI b := by unfold FD; exact (qu hn).up.filter _
theorem AZ {n : Int} (hn : N14 n) (ps : List K3) : (FD n ps).length <= 24 := by
 have := (nq hn).pl
 unfold FD;exact Nat.le_trans (List.length_filter_le _ _) this
theorem vo {a b : K3} (ha : kG a = true) (hb : kG b = true) : ki (decide ((iF a).length < (iF b).length)) (iF a) (iF b) = decide (kI a < kI b) := by
 obtain ⟨a1, a2, a3⟩ := a;obtain ⟨b1, b2, b3⟩ := b;simp only [kG, decide_eq_true_eq] at ha hb;rw [Bool.eq_iff_iff, decide_eq_true_eq (p := kI _ < kI _)];simp only [iF, ki, kI, List.length_cons, List.length_nil];by_cases h1 : a1 = b1
 ·subst h1
  simp only [beq_self_eq_true, if_true];by_cases h2 : a2 = b2
  ·subst h2
   simp only [beq_self_eq_true, if_true];by_cases h3 : a3 = b3
   ·subst h3
    simp
   ·rw [if_neg (by simpa using h3)]
    simp only [decide_eq_true_eq]; omega
  ·rw [if_neg (by simpa using h2)]
   simp only [decide_eq_true_eq]; omega
 ·rw [if_neg (by simpa using h1)]
  simp only [decide_eq_true_eq]; omega
theorem Av {a b : K3} (ha : kG a = true) (hb : kG b = true) (h : kI a = kI b) : a = b := by
 obtain ⟨a1, a2, a3⟩ := a;obtain ⟨b1, b2, b3⟩ := b;simp only [kG, decide_eq_true_eq] at ha hb;simp only [kI] at h;have h1 : a1 = b1 := by omega
 have h2 : a2 = b2 := by omega
 have h3 : a3 = b3 := by omega
 rw [h1, h2, h3]
theorem og {xs : List K3} (hd : xs.Nodup) (hb : ∀ x ∈ xs, kG x = true) (hl : xs.length < 64) : ∃ ys, jj xs = some ys /\ ys.Pairwise (fun a b => kI a < kI b) /\ ∀ y, y ∈ ys ↔ y ∈ xs := by
 have hat : ∀ i, i < xs.length -> xs.getD i (0, 0, 0) ∈ xs := fun i hi => by simp [List.getD, hi]
 have hK : iZ (xs.map iF) = RK.ltN xs.length (fun i => kI (xs.getD i (0, 0, 0))) := by
  funext i j;unfold iZ RK.ltN;by_cases hi : i < xs.length
  ·by_cases hj : j < xs.length
   ·rw [if_pos ⟨hi, hj⟩, List.getElem?_map, List.getElem?_map, List.getElem?_eq_getElem hi, List.getElem?_eq_getElem hj]
    simp only [map_some, bind_some];rw [vo (hb _ (List.getElem_mem hi)) (hb _ (List.getElem_mem hj))];simp [List.getD, hi, hj]
   ·rw [if_neg oM, List.getElem?_map, List.getElem?_map, List.getElem?_eq_none (Nat.le_of_not_lt hj)]
    cases xs[i]? <;> rfl
  ·rw [if_neg oM, List.getElem?_map, List.getElem?_eq_none (Nat.le_of_not_lt hi)]
   rfl
 have inj : nY xs.length (fun i => kI (xs.getD i (0, 0, 0))) := fun i j hi hj e => by
  have := Av (hb _ (hat i hi)) (hb _ (hat j hj)) e
  rw [show xs.getD i (0, 0, 0) = xs[i] by simp [List.getD, hi], show xs.getD j (0, 0, 0) = xs[j] by simp [List.getD, hj]] at this;have np := List.pairwise_iff_getElem.mp hd;rcases Nat.lt_trichotomy i j with hab | hab | hab
  ·exact absurd this (np i j _ _ hab)
  ·exact hab
  ·exact absurd this.symm (np j i _ _ hab)
 obtain ⟨q, e, pm, pw⟩ := uL inj hl;have hq : ∀ i, i ∈ q ↔ i < xs.length := fun i => by rw [pm.mem_iff, List.mem_range]
 have hall : (q.all fun i => decide (i < xs.length)) = true := List.all_eq_true.mpr fun i hi => decide_eq_true ((hq i).mp hi)
 unfold jj;rw [hK, e];simp only [bind_some, hall, if_true];refine ⟨_, rfl, List.pairwise_map.mpr pw, fun y => ?_⟩;rw [List.mem_map];constructor
 ·rintro ⟨i, hi, rfl⟩; exact hat i ((hq i).mp hi)
 ·intro hy
  obtain ⟨i, hi, rfl⟩ := List.getElem_of_mem hy;exact ⟨i, (hq i).mpr hi, by simp [List.getD, hi]⟩
noncomputable def stq (D : List K3) (x : S3) : List K3 := if ce D x.1 = true then if ce D x.2.1 = true then cX D x.2.2 else D else D
theorem mF (D : List K3) (x : S3) : (stq D x = D /\ (x.1 ∈ D -> x.2.1 ∈ D -> x.2.2 ∈ D)) \/ (stq D x = D ++ [x.2.2] /\ x.1 ∈ D /\ x.2.1 ∈ D /\ x.2.2 ∉ D) := by
 unfold stq;by_cases h1 : x.1 ∈ D
 ·by_cases h2 : x.2.1 ∈ D
  ·rw [if_pos (memT_iff.mpr h1), if_pos (memT_iff.mpr h2)]
   by_cases h3 : x.2.2 ∈ D
   ·exact .inl ⟨jd h3, fun _ _ => h3⟩
   ·exact .inr ⟨eT h3, h1, h2, h3⟩
  ·rw [if_pos (memT_iff.mpr h1), if_neg (by rw [memT_no.mpr h2]; decide)]
   exact .inl ⟨rfl, fun _ h => absurd h h2⟩
 ·rw [if_neg (by rw [memT_no.mpr h1]; decide)]
  exact .inl ⟨rfl, fun h => absurd h h1⟩
theorem mL : ∀ (R : List S3) (D : List K3), D.length <= (R.foldl stq D).length
 | [], D => Nat.le_refl _
 | x :: R, D => by
  rw [List.foldl_cons];refine Nat.le_trans ?_ (mL R _);rcases mF D x with ⟨e, _⟩ | ⟨e, _⟩ <;> rw [e]
  ·exact Nat.le_refl _
  ·simp
theorem pq : ∀ (R : List S3) (D : List K3), (R.foldl stq D).length = D.length -> R.foldl stq D = D /\ ∀ x ∈ R, x.1 ∈ D -> x.2.1 ∈ D -> x.2.2 ∈ D
 | [], D, _ => ⟨rfl, fun x hx => by cases hx⟩
 | x :: R, D, h => by
  rw [List.foldl_cons] at h ⊢;have hl := mL R (stq D x);rcases mF D x with ⟨e, hc⟩ | ⟨e, _⟩
  ·rw [e] at h ⊢
   obtain ⟨h1, h2⟩ := pq R D h;refine ⟨h1, fun y hy => ?_⟩;rcases List.mem_cons.mp hy with rfl | hy
   ·exact hc
   ·exact h2 y hy
  ·rw [e] at hl h
   simp only [List.length_append, List.length_cons, List.length_nil] at hl;omega
structure Cp (n : Int) (ps : List K3) (D : List K3) : Prop where
 nd : D.Nodup
 sub : ∀ x ∈ D, x ∈ bG n
 hs : ∀ p ∈ ps, p ∈ D
 si : ∀ p ∈ D, In n ps p
 pl : (bG n).length <= 24
theorem Cp.stq {n : Int} {ps D : List K3} {r : S3} (h : Cp n ps D) (v : tG n) (hr : r ∈ cR n) : Cp n ps (stq D r) := by
 rcases mF D r with ⟨e, _⟩ | ⟨e, c1, c2, c3⟩ <;> rw [e]
 ·exact h
 ·obtain ⟨_, _, b3, b4⟩ := v.bm r hr
  refine ⟨?_, fun y hy => ?_, fun p hp => List.mem_append_left _ (h.hs p hp), fun p hp => ?_, h.pl⟩
  ·rw [<- eT c3]; exact lT h.nd
  ·rcases List.mem_append.mp hy with hy | hy
   ·exact h.sub y hy
   ·rw [List.mem_singleton.mp hy]; exact b3
  ·rcases List.mem_append.mp hp with hp | hp
   ·exact h.si p hp
   ·rw [List.mem_singleton.mp hp]
    rcases b4 with b4 | b4
    ·exact In.step b4 (h.si _ c1) (h.si _ c2)
    ·exact In.step (x := kQ r) b4 (h.si _ c2) (h.si _ c1)
theorem Cp.le {n : Int} {ps D : List K3} (h : Cp n ps D) : D.length <= 24 := Nat.le_trans (iY h.nd h.sub) h.pl
theorem xc (ks : List K3) (p : K3) : (cX ks p).length <= ks.length + 1 := by
 by_cases h : p ∈ ks
 ·rw [jd h]; omega
 ·rw [eT h]; simp
theorem ng {S ρ : Type} {put : S -> K3 -> S} {b : S -> Option (TR S ρ)} {there : S -> List K3} {I P : S -> Prop} {ps : List K3} {s : S} (hb : ∀ s a, I s -> (there s).length <= 200 -> ∃ s', b (put s a) = some (.nx s') /\ I s' /\ there s' = cX (there s) a)
  (h0 : I s) (hl : (there s).length + ps.length <= 200) (hP : ∀ s', I s' -> there s' = ps.foldl cX (there s) -> P s') : ∃ s', dc put b ps s = some (.nx s') /\ P s' := by
 induction ps generalizing s with
 | nil => exact ⟨s, rfl, hP s h0 rfl⟩
 | cons p ps ih =>
  simp only [List.length_cons] at hl;obtain ⟨s1, e1, g1, g2⟩ := hb s p h0 oM
  have := xc (there s) p
  obtain ⟨s2, e2, q⟩ := ih g1 (by rw [g2]; omega) (fun s' h1 h2 => hP s' h1 (by rw [h2, g2]; rfl));exact ⟨s2, by simp only [dc, e1, bind_some, e2], q⟩
theorem ga {S α ρ γ γ' : Type} {put : S -> α -> S} {b : S -> Option (TR S ρ)} {xs : List α} {s : S} {k : TR S ρ -> Option γ'} {k2 : γ' -> Option γ} {P : S -> Prop} (Q : Option γ -> Prop) (h : ∃ s', dc put b xs s = some (.nx s') /\ P s') (hk : ∀ s', P s' -> Q ((k (.nx s')).bind k2)) : Q (((dc put b xs s).bind k).bind k2) := by
 obtain ⟨s', e, p⟩ := h;rw [e]; exact hk s' p
structure CS (n : Int) (ps : List K3) (s : aG) : Prop where
 hn : s.yn = (n : Int)
 hp : s.ypairs_here = ps
 hr : s.yrows = cR n
 cp : Cp n ps s.ythere
theorem wD {n : Int} (v : tG n) {ps : List K3} {many : Int} {D : List K3} {put : aG -> S3 -> aG} {b : aG -> Option (TR aG (List K3))}
  (hb : ∀ s x, CS n ps s -> s.ymany = many -> ∃ s', b (put s x) = some (.nx s') /\ s'.yn = (n : Int) /\ s'.ypairs_here = ps /\ s'.yrows = cR n /\ s'.ymany = many /\ s'.ythere = stq s.ythere x)
  (s : aG) (h1 : CS n ps s) (h2 : s.ymany = many) (h3 : s.ythere = D) : ∃ s', dc put b (cR n) s = some (.nx s') /\ CS n ps s' /\ s'.ymany = many /\ s'.ythere = (cR n).foldl stq D := by
 refine hV (S := aG) (fun k s => CS n ps s /\ s.ymany = many /\ s.ythere = ((cR n).take k).foldl stq D) ⟨h1, h2, by rw [h3]; rfl⟩ ?_ (fun s h => ⟨h.1, h.2.1, by rw [h.2.2, List.take_length]⟩);rintro k s x hx ⟨e1, e2, e3⟩;have hm := List.mem_of_getElem? hx;obtain ⟨s', g0, g1, g2, g3, g4, g5⟩ := hb s x e1 e2;refine ⟨s', g0, ⟨g1, g2, g3, by rw [g5]; exact e1.cp.stq v hm⟩, g4, ?_⟩;rw [g5, e3, List.take_succ, hx];simp [List.foldl_append]
theorem A2 {n : Int} (v : tG n) {ps : List K3} {ft : aG -> Option (Bool × aG)} {fb : aG -> Option (TR aG (List K3))}
  (hft : ∀ s, ft s = some (decide (s.ymany < (s.ythere.length : Int)), s)) (hfb : ∀ s, CS n ps s -> ∃ s', fb s = some (.nx s') /\ CS n ps s' /\ s'.ymany = (s.ythere.length : Int) /\ s'.ythere = (cR n).foldl stq s.ythere) :
  ∀ (k fuel : Nat) (s : aG), 25 - s.ythere.length <= k -> k + 2 <= fuel -> s.ymany < (s.ythere.length : Int) -> CS n ps s ->
   ∃ a, fB ft fb fuel s = some a /\ ∃ s', a = .nx s' /\ CS n ps s' /\ ∀ x ∈ cR n, x.1 ∈ s'.ythere -> x.2.1 ∈ s'.ythere -> x.2.2 ∈ s'.ythere := by
 intro k
 induction k with
 | zero =>
  intro fuel s hk hf hm hc
  have := hc.cp.le
  omega
 | succ k ih =>
  intro fuel s hk hf hm hc;obtain ⟨f, rfl⟩ : ∃ f, fuel = f + 1 := ⟨fuel - 1, by omega⟩;obtain ⟨s1, e1, g1, g3, g4⟩ := hfb s hc;have hl := mL (cR n) s.ythere;rw [<- g4] at hl;have e2 : fB ft fb (f + 1) s = fB ft fb f s1 := by
   simp only [fB, hft s, bind_some, show decide (s.ymany < (s.ythere.length : Int)) = true from decide_eq_true hm, if_true, e1]
  rw [e2];by_cases hq : s1.ythere.length = s.ythere.length
  ·obtain ⟨f2, rfl⟩ : ∃ f2, f = f2 + 1 := ⟨f - 1, by omega⟩
   obtain ⟨p1, p2⟩ := pq (cR n) s.ythere (by rw [<- g4]; exact hq);rw [p1] at g4;have e3 : fB ft fb (f2 + 1) s1 = some (.nx s1) := by
    simp only [fB, hft s1, bind_some, show decide (s1.ymany < (s1.ythere.length : Int)) = false from decide_eq_false oM, Bool.false_eq_true, if_false]
   refine ⟨_, e3, s1, rfl, g1, ?_⟩;rw [g4];exact p2
  ·exact ih f s1 oM oM oM g1
theorem w6 {n : Int} (hN : N14 n) {ps : List K3} (hl : ps.length <= 100) (hp : ∀ x ∈ ps, x ∈ bG n) : kO ((n : Int), ps, ()) = some (FD n ps, (n : Int), ps, ()) := by
 have v := qu hN;have hpl := (nq hN).pl;unfold kO lr;simp only [TT.tSeq, bind_some, map_some];refine ga (S := aG) (P := fun s => (s.yn = (n : Int) /\ s.ypairs_here = ps) /\ s.ythere = ps.foldl cX []) (fun o => o = some (FD n ps, (n : Int), ps, ())) ?_ ?_
 ·refine ng (there := aG.ythere) (I := fun s => s.yn = (n : Int) /\ s.ypairs_here = ps) (fun s a hi h => ?_) ⟨rfl, rfl⟩ (by dsimp only; simp; omega) (fun s' h1 h2 => ⟨h1, h2⟩)
  dsimp only;rw [bn (jV oM)];exact ⟨_, rfl, hi, rfl⟩
 ·rintro s0 ⟨⟨h1, h3⟩, h2⟩
  dsimp only;simp only [h1, h2, v.br, map_some, bind_some, Option.bind_assoc];refine rH (P := fun a => ∃ s', a = TR.nx s' /\ CS n ps s' /\ ∀ x ∈ cR n, x.1 ∈ s'.ythere -> x.2.1 ∈ s'.ythere -> x.2.2 ∈ s'.ythere) (fun o => o = some (FD n ps, (n : Int), ps, ())) ?_ ?_
  ·refine A2 v (fun s => rfl) (fun s hc => ?_) 25 100 _ oM oM (by show (-1 : Int) < _; omega) ⟨rfl, h3, rfl, oQ List.nodup_nil, fun x hx => ?_, fun p hp => fold_mem.mpr (.inr hp), fun p hp => ?_, hpl⟩
   ·simp only [TT.tSeq, bind_some, hc.hr]
    refine wD v (D := s.ythere) (many := (s.ythere.length : Int)) ?_ _ ⟨hc.hn, hc.hp, rfl, hc.cp⟩ rfl rfl;intro s2 x q1 q2;have hle := q1.cp.le;dsimp only;unfold stq;by_cases m1 : ce s2.ythere x.1 = true
    ·by_cases m2 : ce s2.ythere x.2.1 = true
     ·simp only [m1, m2, if_true, bind_some, bn (jV (n := s2.ythere.length) oM)]
      exact ⟨_, rfl, q1.hn, q1.hp, q1.hr, q2, rfl⟩
     ·simp only [m1, m2, if_true, bind_some, if_false, Bool.false_eq_true]
      exact ⟨_, rfl, q1.hn, q1.hp, q1.hr, q2, rfl⟩
    ·simp only [m1, bind_some, if_false, Bool.false_eq_true]
     exact ⟨_, rfl, q1.hn, q1.hp, q1.hr, q2, rfl⟩
   ·rcases fold_mem.mp hx with h | h
    ·exact absurd h List.not_mem_nil
    ·exact hp x h
   ·rcases fold_mem.mp hp with h | h
    ·exact absurd h List.not_mem_nil
    ·exact In.of h
  ·rintro a ⟨s', rfl, hc, hcl⟩
   obtain ⟨ys, es, up, hm⟩ := og hc.cp.nd (fun x hx => v.bd x (hc.cp.sub x hx)) (by have := hc.cp.le; omega);simp only [es, map_some, bind_some];have ey : ys = FD n ps := n4 up (qc hN _) fun y => by
    rw [hm, FD_mem];refine ⟨fun h => ⟨hc.cp.sub y h, hc.cp.si y h⟩, fun h => h.2 (fun z => z ∈ s'.ythere) hc.cp.hs fun x hx h1 h2 => ?_⟩;rcases v.sb x hx with hb | hb
    ·exact hcl x hb h1 h2
    ·exact hcl (kQ x) hb h2 h1
   rw [ey, hc.hn, hc.hp]
theorem jF {S ρ : Type} {f g : S -> Option (TR S ρ)} {s s1 : S} (Q : Option (TR S ρ) -> Prop) (h1 : f s = some (TR.nx s1)) (h2 : Q (g s1)) : Q (TT.tSeq f g s) := by
 unfold TT.tSeq; rw [h1]; exact h2
theorem Aj {a b : List S3} : (Py.ok (TT.rM (aa (aa TT.rI TT.rI TT.rI) (aa TT.rI TT.rI TT.rI) (aa TT.rI TT.rI TT.rI))) a && Py.ok (rL (aa (aa TT.rI TT.rI TT.rI) (aa TT.rI TT.rI TT.rI) (aa TT.rI TT.rI TT.rI))) b && decide (min (Py.k (TT.rM (aa (aa TT.rI TT.rI TT.rI) (aa TT.rI TT.rI TT.rI) (aa TT.rI TT.rI TT.rI)))) (Py.k (rL (aa (aa TT.rI TT.rI TT.rI) (aa TT.rI TT.rI TT.rI) (aa TT.rI TT.rI TT.rI)))) <= 50)) = true := by
 have h1 : ∀ l : List S3, (l.all fun _ => true) = true := fun l => by simp
 show ((a.all fun _ => true) && (b.all fun _ => true) && _) = true;rw [h1, h1]; rfl
theorem qD {a b : List K3} : (Py.ok (TT.rM (aa TT.rI TT.rI TT.rI)) a && Py.ok (rL (aa TT.rI TT.rI TT.rI)) b && decide (min (Py.k (TT.rM (aa TT.rI TT.rI TT.rI))) (Py.k (rL (aa TT.rI TT.rI TT.rI))) <= 50)) = true := by
 have h1 : ∀ l : List K3, (l.all fun _ => true) = true := fun l => by simp
 show ((a.all fun _ => true) && (b.all fun _ => true) && _) = true;rw [h1, h1]; rfl
theorem Cm {a b : List K3} : (Py.ok (rL (aa TT.rI TT.rI TT.rI)) a && Py.ok (rL (aa TT.rI TT.rI TT.rI)) b && decide (min (Py.k (rL (aa TT.rI TT.rI TT.rI))) (Py.k (rL (aa TT.rI TT.rI TT.rI))) <= 50)) = true := qD
theorem Cl {a b : List K3} : (Py.ok (rL (aa TT.rI TT.rI TT.rI)) a && Py.ok (TT.rM (aa TT.rI TT.rI TT.rI)) b && decide (min (Py.k (rL (aa TT.rI TT.rI TT.rI))) (Py.k (TT.rM (aa TT.rI TT.rI TT.rI))) <= 50)) = true := qD
theorem AE {α : Type} {xs : List α} {g f : α -> Bool} (hg : ∀ a, g a = true) : nI g f xs = some (xs.any f) := by
 unfold nI;rw [if_pos (List.all_eq_true.mpr fun a _ => hg a)]
noncomputable def fS (m a : S3) : Bool := a.1.1 == m.1.1 && (a.1.2.1 == m.1.2.1 && a.1.2.2 == m.1.2.2) && (a.2.1.1 == m.2.1.1 && (a.2.1.2.1 == m.2.1.2.1 && a.2.1.2.2 == m.2.1.2.2) && (a.2.2.1 == m.2.2.1 && (a.2.2.2.1 == m.2.2.2.1 && a.2.2.2.2 == m.2.2.2.2)))
theorem xH {xs : List S3} {m : S3} : nI (fun a => Py.ok (aa (aa TT.rI TT.rI TT.rI) (aa TT.rI TT.rI TT.rI) (aa TT.rI TT.rI TT.rI)) a && Py.ok (aa (aa TT.rI TT.rI TT.rI) (aa TT.rI TT.rI TT.rI) (aa TT.rI TT.rI TT.rI)) (m.1, m.2.1, m.2.2) && decide (min (Py.k (aa (aa TT.rI TT.rI TT.rI) (aa TT.rI TT.rI TT.rI) (aa TT.rI TT.rI TT.rI))) (Py.k (aa (aa TT.rI TT.rI TT.rI) (aa TT.rI TT.rI TT.rI) (aa TT.rI TT.rI TT.rI))) <= 50))
  (fun a => a.1.1 == m.1.1 && (a.1.2.1 == m.1.2.1 && a.1.2.2 == m.1.2.2) && (a.2.1.1 == m.2.1.1 && (a.2.1.2.1 == m.2.1.2.1 && a.2.1.2.2 == m.2.1.2.2) && (a.2.2.1 == m.2.2.1 && (a.2.2.2.1 == m.2.2.2.1 && a.2.2.2.2 == m.2.2.2.2)))) xs = some (xs.any (fS m)) := AE (fun a => rfl)
theorem fS_iff {m a : S3} : fS m a = true ↔ a = m := by
 obtain ⟨⟨a1, a2, a3⟩, ⟨a4, a5, a6⟩, a7, a8, a9⟩ := a;obtain ⟨⟨m1, m2, m3⟩, ⟨m4, m5, m6⟩, m7, m8, m9⟩ := m;simp [fS, and_assoc]
theorem tu {xs : List S3} {m : S3} : xs.any (fS m) = true ↔ m ∈ xs := by
 rw [List.any_eq_true];exact ⟨fun hq0 => by obtain ⟨z, hz, e⟩ := hq0; rw [<- fS_iff.mp e]; exact hz, fun h => ⟨m, h, fS_iff.mpr rfl⟩⟩
noncomputable def nG (R : List S3) (x : S3) : Bool := R.any (fS x) || R.any (fS (kQ x))
theorem oK {R : List S3} {x : S3} : nG R x = true ↔ x ∈ R \/ kQ x ∈ R := by unfold nG; rw [Bool.or_eq_true, tu, tu]
theorem wP {n : Int} (v : tG n) (x : S3) : nG (cR n) x = nG (cY n) x := by
 rw [Bool.eq_iff_iff, oK, oK];constructor
 ·rintro (h | h)
  ·exact (v.bm _ h).2.2.2
  ·rcases (v.bm _ h).2.2.2 with h | h
   ·exact .inr h
   ·exact .inl h
 ·rintro (h | h)
  ·exact v.sb _ h
  ·rcases v.sb _ h with h | h
   ·exact .inr h
   ·exact .inl h
theorem vE (al : List S3) (a b c : K3) : kP (al, a, b, c, ()) = some (nG al (a, b, c), al, a, b, c, ()) := by
 have e1 := xH (xs := al) (m := (a, b, c));have e2 := xH (xs := al) (m := (b, a, c));dsimp only at e1 e2;unfold kP lu;simp only [TT.tSeq, bind_some, map_some];rw [e1];unfold nG;cases al.any (fS (a, b, c))
 ·simp only [map_some, bind_some, Bool.false_eq_true, if_false]
  rw [e2];simp only [map_some, bind_some, Bool.false_or];rfl
 ·rfl
theorem oS : ∀ {a b : List K3}, j6 (fun (a b : K3) => a.1 == b.1 && (a.2.1 == b.2.1 && a.2.2 == b.2.2)) a b = decide (a = b) := by
 intro a
 induction a with
 | nil => intro b; cases b <;> simp [j6]
 | cons x a ih =>
  intro b;cases b with
  | nil => simp [j6]
  | cons y b =>
   simp only [j6, ih];obtain ⟨x1, x2, x3⟩ := x;obtain ⟨y1, y2, y3⟩ := y;rw [Bool.eq_iff_iff];simp [and_assoc]
noncomputable def kR (R : List S3) (D : List K3) (x : S3) : Option (List K3) := if (ce D x.1 && (ce D x.2.1 && (!ce D x.2.2 && nG R x))) = true then some (cX D x.2.2) else none
noncomputable def fH (R : List S3) (o : Option (List K3)) (x : S3) : Option (List K3) := o.bind fun D => kR R D x
theorem y9 {R : List S3} : ∀ l : List S3, l.foldl (fH R) none = none := by
 intro l
 induction l with
 | nil => rfl
 | cons x l ih => exact ih
theorem qi {S ρ : Type} {put : S -> S3 -> S} {b : S -> Option (TR S ρ)} {there : S -> List K3} {R : List S3} {I : S -> Prop} {rv : ρ}
  (hb : ∀ s x, I s -> (∀ D, kR R (there s) x = some D -> ∃ s', b (put s x) = some (.nx s') /\ I s' /\ there s' = D) /\ (kR R (there s) x = none -> ∃ s', b (put s x) = some (.rt rv s') /\ I s')) :
  ∀ (xs : List S3) (s : S), I s -> (∀ D, xs.foldl (fH R) (some (there s)) = some D -> ∃ s', dc put b xs s = some (.nx s') /\ I s' /\ there s' = D) /\ (xs.foldl (fH R) (some (there s)) = none -> ∃ s', dc put b xs s = some (.rt rv s') /\ I s') := by
 intro xs
 induction xs with
 | nil => exact fun s h => ⟨fun D e => ⟨s, rfl, h, Option.some.inj e⟩, fun e => nomatch e⟩
 | cons x xs ih =>
  intro s h;obtain ⟨h1, h2⟩ := hb s x h;have e0 : (x :: xs).foldl (fH R) (some (there s)) = xs.foldl (fH R) (kR R (there s) x) := rfl;rw [e0];cases hq : kR R (there s) x with
  | none =>
   obtain ⟨s', e, g⟩ := h2 hq;rw [y9];exact ⟨fun D e => (nomatch e), fun _ => ⟨s', by simp only [dc, e, bind_some], g⟩⟩
  | some D1 =>
   obtain ⟨s', e, g, ht⟩ := h1 D1 hq;obtain ⟨k1, k2⟩ := ih s' g;rw [ht] at k1 k2;simp only [dc, e, bind_some];exact ⟨k1, k2⟩
theorem qj {S ρ γ γ' : Type} {put : S -> S3 -> S} {b : S -> Option (TR S ρ)} {xs : List S3} {s : S} {k : TR S ρ -> Option γ'} {k2 : γ' -> Option γ} {o : Option (List K3)} {there : S -> List K3} {I : S -> Prop} {rv : ρ} (Q : Option γ -> Prop)
  (h : (∀ D, o = some D -> ∃ s', dc put b xs s = some (.nx s') /\ I s' /\ there s' = D) /\ (o = none -> ∃ s', dc put b xs s = some (.rt rv s') /\ I s'))
  (h1 : ∀ D s', o = some D -> I s' -> there s' = D -> Q ((k (.nx s')).bind k2)) (h2 : ∀ s', o = none -> I s' -> Q ((k (.rt rv s')).bind k2)) : Q (((dc put b xs s).bind k).bind k2) := by
 cases ho : o with
 | none => obtain ⟨s', e, i⟩ := h.2 ho; rw [e]; exact h2 s' ho i
 | some D => obtain ⟨s', e, i, j⟩ := h.1 D ho; rw [e]; exact h1 D s' ho i j
noncomputable def HB (n : Int) (ps F : List K3) (st : List S3) : Bool := decide (F = FD n ps) && match st.foldl (fH (cY n)) (some (ps.foldl cX [])) with
 | some D => decide (D.length = F.length)
 | none => false
theorem Cp.add {n : Int} {ps D : List K3} {x : S3} (h : Cp n ps D) (hn : N14 n) {D' : List K3} (hx : kR (cY n) D x = some D') : Cp n ps D' := by
 unfold kR at hx;split at hx
 ·rename_i hc
  simp only [Bool.and_eq_true, Bool.not_eq_true', memT_iff, memT_no, oK] at hc;obtain ⟨c1, c2, c3, c4⟩ := hc;have hs := nq hn;have e := Option.some.inj hx;subst e;refine ⟨lT h.nd, fun y hy => ?_, fun p hp => addT_mem.mpr (.inl (h.hs p hp)), fun y hy => ?_, h.pl⟩
  ·rcases addT_mem.mp hy with hy | rfl
   ·exact h.sub y hy
   ·rcases c4 with c | c
    ·exact (hs.sp _ c).2.2
    ·exact (hs.sp _ c).2.2
  ·rcases addT_mem.mp hy with hy | rfl
   ·exact h.si y hy
   ·rcases c4 with c | c
    ·exact In.step c (h.si _ c1) (h.si _ c2)
    ·exact In.step (x := kQ x) c (h.si _ c2) (h.si _ c1)
 ·cases hx
theorem Cp.init {n : Int} (hn : N14 n) {ps : List K3} (hp : ∀ x ∈ ps, x ∈ bG n) : Cp n ps (ps.foldl cX []) := ⟨oQ List.nodup_nil, fun x hx => by
  rcases fold_mem.mp hx with h | h
  ·exact absurd h List.not_mem_nil
  ·exact hp x h, fun p hp => fold_mem.mpr (.inr hp), fun p hp => by
  rcases fold_mem.mp hp with h | h
  ·exact absurd h List.not_mem_nil
  ·exact In.of h, (nq hn).pl⟩
structure HS (n : Int) (ps F : List K3) (st : List S3) (s : aq) : Prop where
 h1 : s.xn = n
 h2 : s.xpairs = ps
 h3 : s.xfound = F
 h4 : s.xsteps = st
 h5 : s.xallowed = cY n
 cp : Cp n ps s.xsilent
theorem AF {n : Int} (hn : N14 n) {ps : List K3} (hl : ps.length <= 100) (hp : ∀ x ∈ ps, x ∈ bG n) (F : List K3) (st : List S3) : iQ (n, ps, F, st, ()) = some (HB n ps F st, n, ps, F, st, ()) := by
 have hs := nq hn;obtain ⟨D0, st0, eb, _⟩ := vX hn hl hp;have ci := Cp.init hn hp;unfold iQ jf;simp only [TT.tSeq, bind_some, map_some, eb, bn qD, oS];by_cases hF : F = FD n ps
 ·simp only [hF, decide_true, Bool.not_true, Bool.false_eq_true, if_false, bind_some, hs.st, map_some, bn (ej (n := ps.length) oM)]
  rw [vp (f := fun x => (x, true)) (fun _ _ => rfl) (fun _ _ => rfl)];have ha : ((ps.map fun x => (x, true)).all fun a => a.2) = true := by rw [List.all_map, List.all_eq_true]; exact fun _ _ => rfl
  have hm : (ps.map fun x => (x, true)).map (fun x => x.1) = ps := by rw [List.map_map]; exact List.map_id' ps
  simp only [bind_some, map_some, bn ha, hm];rw [<- hF];unfold HB;rw [decide_eq_true hF, Bool.true_and];refine qj (fun o => o = some (_, n, ps, F, st, ())) (qi (there := aq.xsilent) (R := cY n) (I := HS n ps F st) (rv := false) ?_ st _ ⟨rfl, rfl, rfl, rfl, rfl, ci⟩) ?_ ?_
  ·intro s x g
   have hle := g.cp.le;obtain ⟨a1, a2, a3, a4, a5, a6, a7, a8, a9⟩ := s;obtain ⟨g1, g2, g3, g4, g5, g6⟩ := g;dsimp only at g1 g2 g3 g4 g5 g6 hle;cases g1.symm; cases g2.symm; cases g3.symm; cases g4.symm; cases g5.symm;have hadd : ∀ D, kR (cY n) a6 x = some D -> Cp n ps D := fun D e => g6.add hn e
   unfold kR at hadd ⊢;dsimp only;simp only [TT.tSeq, vE, map_some, bind_some];cases m1 : ce a6 x.1
   ·simp only [Bool.false_and, Bool.not_false, if_true, Bool.false_eq_true, if_false, bind_some]
    exact ⟨fun D e => (nomatch e), fun _ => ⟨_, rfl, rfl, rfl, rfl, rfl, rfl, g6⟩⟩
   ·cases m2 : ce a6 x.2.1
    ·simp only [Bool.false_and, Bool.and_false, Bool.not_false, Bool.not_true, if_true, Bool.false_eq_true, if_false, bind_some]
     exact ⟨fun D e => (nomatch e), fun _ => ⟨_, rfl, rfl, rfl, rfl, rfl, rfl, g6⟩⟩
    ·cases m3 : ce a6 x.2.2
     ·cases m4 : nG (cY n) x
      ·simp only [Bool.false_and, Bool.and_false, Bool.not_false, Bool.not_true, if_true, Bool.false_eq_true, if_false, bind_some, map_some]
       exact ⟨fun D e => (nomatch e), fun _ => ⟨_, rfl, rfl, rfl, rfl, rfl, rfl, g6⟩⟩
      ·rw [m1, m2, m3, m4] at hadd
       simp only [Bool.false_and, Bool.and_false, Bool.and_self, Bool.not_false, Bool.not_true, if_true, Bool.false_eq_true, if_false, bind_some, map_some] at hadd ⊢;rw [bn (jV oM)];exact ⟨fun D e => ⟨_, rfl, ⟨rfl, rfl, rfl, rfl, rfl, hadd _ rfl⟩, Option.some.inj e⟩, fun e => (nomatch e)⟩
     ·simp only [Bool.false_and, Bool.and_false, Bool.not_false, Bool.not_true, if_true, Bool.false_eq_true, if_false, bind_some]
      exact ⟨fun D e => (nomatch e), fun _ => ⟨_, rfl, rfl, rfl, rfl, rfl, rfl, g6⟩⟩
  ·intro D s hq g g2
   dsimp only at hq;rw [hq];simp only [bn qE, map_some, bind_some, g.h1, g.h2, g.h3, g.h4, g2];congr 2;rw [Bool.eq_iff_iff]; simp; omega
  ·intro s hq g
   dsimp only at hq;rw [hq];simp only [bind_some, g.h1, g.h2, g.h3, g.h4]
 ·have : HB n ps F st = false := by unfold HB; rw [decide_eq_false hF]; rfl
  simp only [hF, decide_false, Bool.not_false, if_true, bind_some, this]
structure RS (n : Int) (ps F : List K3) (st : List S3) (s : aE) : Prop where
 h1 : s.yn = n
 h2 : s.ypairs_here = ps
 h3 : s.yfound = F
 h4 : s.ysteps = st
 h5 : s.yrows = cR n
 cp : Cp n ps s.ythere
theorem AY {n : Int} (hn : N14 n) {ps D ys : List K3} (h : Cp n ps D) (up : ys.Pairwise fun a b => kI a < kI b) (hm : ∀ y, y ∈ ys ↔ y ∈ D) : (ys = FD n ps) ↔ D.length = (FD n ps).length := by
 have hs : ∀ y ∈ D, y ∈ FD n ps := fun y hy => FD_mem.mpr ⟨h.sub y hy, h.si y hy⟩
 constructor
 ·intro e
  refine Nat.le_antisymm (iY h.nd hs) (iY (xl (qc hn ps)) fun y hy => ?_);rw [<- e] at hy; exact (hm y).mp hy
 ·intro e
  refine n4 up (qc hn ps) fun y => ?_
  rw [hm];refine ⟨hs y, fun hy => ?_⟩;by_cases hD : y ∈ D
  ·exact hD
  ·have := iY (l := y :: D) (P := FD n ps) (List.nodup_cons.mpr ⟨hD, h.nd⟩) (fun z hz => by
    rcases List.mem_cons.mp hz with rfl | hz
    ·exact hy
    ·exact hs z hz)
   simp only [List.length_cons] at this;omega
theorem yh {n : Int} (hn : N14 n) {ps : List K3} (hl : ps.length <= 100) (hp : ∀ x ∈ ps, x ∈ bG n) (F : List K3) (st : List S3) : mB (n, ps, F, st, ()) = some (HB n ps F st, n, ps, F, st, ()) := by
 have hs := nq hn;have v := qu hn;have ci := Cp.init hn hp;unfold mB nh;simp only [TT.tSeq, bind_some, map_some];refine ga (S := aE) (P := fun s => (s.yn = n /\ s.ypairs_here = ps /\ s.yfound = F /\ s.ysteps = st) /\ s.ythere = ps.foldl cX []) (fun o => o = some (HB n ps F st, n, ps, F, st, ())) ?_ ?_
 ·refine ng (there := aE.ythere) (I := fun s => s.yn = n /\ s.ypairs_here = ps /\ s.yfound = F /\ s.ysteps = st) (fun s a hi h => ?_) ⟨rfl, rfl, rfl, rfl⟩ (by dsimp only; simp; omega) (fun s' h1 h2 => ⟨h1, h2⟩)
  dsimp only;rw [bn (jV oM)];exact ⟨_, rfl, hi, rfl⟩
 ·rintro s0 ⟨⟨h1, h2, h3, h4⟩, h5⟩
  dsimp only;simp only [h1, h4, h5, v.br, map_some, bind_some];refine qj (fun o => o = some (HB n ps F st, n, ps, F, st, ())) (qi (there := aE.ythere) (R := cY n) (I := RS n ps F st) (rv := false) ?_ st _ ⟨rfl, h2, h3, rfl, rfl, ci⟩) ?_ ?_
  ·intro s x g
   have hle := g.cp.le;obtain ⟨a1, a2, a3, a4, a5, a6, a7, a8, a9, a10⟩ := s;obtain ⟨g1, g2, g3, g4, g5, g6⟩ := g;dsimp only at g1 g2 g3 g4 g5 g6 hle;cases g1.symm; cases g2.symm; cases g3.symm; cases g4.symm; cases g5.symm;have hadd : ∀ D, kR (cY n) a5 x = some D -> Cp n ps D := fun D e => g6.add hn e
   have e1 := xH (xs := cR n) (m := x);have e2 := xH (xs := cR n) (m := (x.2.1, x.1, x.2.2));unfold kR at hadd ⊢;rw [<- wP v] at hadd ⊢;dsimp only at e2 ⊢;simp only [TT.tSeq, map_some, bind_some];cases m1 : ce a5 x.1
   ·simp only [Bool.false_and, Bool.not_false, if_true, Bool.false_eq_true, if_false, bind_some]
    exact ⟨fun D e => (nomatch e), fun _ => ⟨_, rfl, rfl, rfl, rfl, rfl, rfl, g6⟩⟩
   ·cases m2 : ce a5 x.2.1
    ·simp only [Bool.false_and, Bool.and_false, Bool.not_false, Bool.not_true, if_true, Bool.false_eq_true, if_false, bind_some]
     exact ⟨fun D e => (nomatch e), fun _ => ⟨_, rfl, rfl, rfl, rfl, rfl, rfl, g6⟩⟩
    ·cases m3 : ce a5 x.2.2
     ·rw [m1, m2, m3] at hadd
      simp only [Bool.false_and, Bool.and_false, Bool.and_self, Bool.true_and, Bool.not_false, Bool.not_true, if_true, Bool.false_eq_true, if_false, bind_some, map_some] at hadd ⊢;rw [e1];unfold nG at hadd ⊢;cases m4 : (cR n).any (fS x)
      ·simp only [map_some, bind_some, Bool.not_false, if_true]
       rw [e2];rw [m4] at hadd;unfold kQ at hadd ⊢;cases m5 : (cR n).any (fS (x.2.1, x.1, x.2.2))
       ·simp only [Bool.or_false, Bool.not_false, map_some, bind_some, if_true, Bool.false_eq_true, if_false]
        exact ⟨fun D e => (nomatch e), fun _ => ⟨_, rfl, rfl, rfl, rfl, rfl, rfl, g6⟩⟩
       ·rw [m5] at hadd
        simp only [Bool.or_true, Bool.not_true, map_some, bind_some, if_true, Bool.false_eq_true, if_false] at hadd ⊢;rw [bn (jV oM)];exact ⟨fun D e => ⟨_, rfl, ⟨rfl, rfl, rfl, rfl, rfl, hadd _ rfl⟩, Option.some.inj e⟩, fun e => (nomatch e)⟩
      ·rw [m4] at hadd
       simp only [Bool.true_or, Bool.not_true, map_some, bind_some, if_true, Bool.false_eq_true, if_false] at hadd ⊢;rw [bn (jV oM)];exact ⟨fun D e => ⟨_, rfl, ⟨rfl, rfl, rfl, rfl, rfl, hadd _ rfl⟩, Option.some.inj e⟩, fun e => (nomatch e)⟩
     ·simp only [Bool.false_and, Bool.and_false, Bool.not_false, Bool.not_true, if_true, Bool.false_eq_true, if_false, bind_some]
      exact ⟨fun D e => (nomatch e), fun _ => ⟨_, rfl, rfl, rfl, rfl, rfl, rfl, g6⟩⟩
  ·intro D s hq g g2
   dsimp only at hq;have hle := g.cp.le;have hcp := g.cp;rw [g2] at hcp;obtain ⟨ys, es, up, hm⟩ := og g.cp.nd (fun x hx => v.bd x (g.cp.sub x hx)) oM;rw [g2] at hm;have he := AY hn hcp up hm;simp only [es, map_some, bind_some, bn Cl, oS, g.h3];have hb : HB n ps F st = (decide (F = FD n ps) && decide (D.length = F.length)) := by unfold HB; rw [hq]
   by_cases hy : ys = F
   ·simp only [hy, decide_true, if_true, g.h1, g.h2, w6 hn hl hp, map_some, bind_some, bn qD, oS, g.h3, g.h4]
    rw [hb];by_cases hF : F = FD n ps
    ·have := he.mp (hy.trans hF)
     rw [decide_eq_true hF, decide_eq_true (by rw [this, hF])];rfl
    ·rw [decide_eq_false hF]; rfl
   ·simp only [hy, decide_false, Bool.false_eq_true, if_false, map_some, bind_some, g.h1, g.h2, g.h3, g.h4]
    rw [hb];by_cases hF : F = FD n ps
    ·rw [decide_eq_false (p := D.length = F.length) (fun e => hy ((he.mpr (by rw [e, hF])).trans hF.symm)), Bool.and_false]
    ·rw [decide_eq_false hF]; rfl
  ·intro s hq g
   dsimp only at hq;have hb : HB n ps F st = false := by unfold HB; rw [hq]; exact Bool.and_false _
   rw [hb];simp only [bind_some, g.h1, g.h2, g.h3, g.h4]
noncomputable def aZ (ns : List Int) (k n : Nat) (s : aF) : Prop := s.yscript = ns /\ s.ystart = (k : Int) /\ s.yn = (n : Int) /\ s.yevery = bG (n : Int) /\ s.yrows = cR (n : Int) /\ ∀ x ∈ s.yfound, x ∈ bG (n : Int)
theorem za (ns : List Int) (k : Nat) : ∃ (n : Nat) (ps : List K3), mE (ns, (k : Int), ()) = some (((n : Int), ps), ns, (k : Int), ()) /\ 1 <= n /\ n <= 4 /\ ps.length <= 12 /\ ∀ x ∈ ps, x ∈ bG (n : Int) := by
 have sz6 : gE ([4, 3, 4, 2, 4, 1] : List Int).length = true := ej (by simp);have sz0 : gE ([] : List K3).length = true := ej (by simp);have r7 : (iy 1 && iy 7) = true := by rw [uO (z := 1) oM oM, uO (z := 7) oM oM]; rfl
 obtain ⟨p0, ep, lp⟩ := qv ns k;obtain ⟨d, p1, ed, lp1, d0, d1⟩ := eW lp (m := 6) oM;obtain ⟨n, en, hn1, hn4⟩ : ∃ n : Nat, cy ([4, 3, 4, 2, 4, 1] : List Int) d = some (n : Int) /\ 1 <= n /\ n <= 4 := by
  have : d = 0 \/ d = 1 \/ d = 2 \/ d = 3 \/ d = 4 \/ d = 5 := by omega
  rcases this with rfl | rfl | rfl | rfl | rfl | rfl
  ·exact ⟨4, rfl, by decide, by decide⟩
  ·exact ⟨3, rfl, by decide, by decide⟩
  ·exact ⟨4, rfl, by decide, by decide⟩
  ·exact ⟨2, rfl, by decide, by decide⟩
  ·exact ⟨4, rfl, by decide, by decide⟩
  ·exact ⟨1, rfl, by decide, by decide⟩
 have hN : N14 (n : Int) := ⟨by omega, by omega⟩;have hP := qu hN;have hpl := (nq hN).pl;unfold mE nj;simp only [TT.tSeq, bind_some, map_some, bn sz6, ep, ed, en, hP.pr, hP.br, bn sz0, bn r7];refine ga (S := aF) (P := fun s => aZ ns k n s /\ s.yfound.length <= 12) (fun o => ∃ (n : Nat) (ps : List K3), o = some (((n : Int), ps), ns, (k : Int), ()) /\ 1 <= n /\ n <= 4 /\ ps.length <= 12 /\ ∀ x ∈ ps, x ∈ bG (n : Int)) ?_ ?_
 ·refine hV (S := aF) (fun j s => aZ ns k n s /\ s.yfound.length <= 2 * j) ⟨⟨rfl, rfl, rfl, rfl, rfl, fun x hx => absurd hx List.not_mem_nil⟩, Nat.le_refl _⟩ ?_ (fun s q => ⟨q.1, by have h := q.2; rw [show (rng 1 7).length = 6 from rfl] at h; omega⟩)
  intro j s x hx hi;obtain ⟨a1, a2, a3, a4, a5, a6, a7, a8, a9⟩ := s;obtain ⟨⟨g1, g2, g3, g4, g5, g6⟩, g7⟩ := hi;dsimp only at g1 g2 g3 g4 g5 g6 g7;cases g1.symm; cases g2.symm; cases g3.symm; cases g4.symm; cases g5.symm;have hxr : x = 1 + (j : Int) /\ j < 6 := by
   unfold rng at hx;rw [List.getElem?_map] at hx;rcases hk : (List.range ((7 : Int) - 1).toNat)[j]? with _ | i
   ·rw [hk] at hx; cases hx
   ·rw [hk] at hx
    cases hx;have h1 := (List.getElem?_eq_some_iff.mp hk).1;have h2 := (List.getElem?_eq_some_iff.mp hk).2;simp only [List.getElem_range] at h2;simp only [List.length_range] at h1;subst h2;exact ⟨rfl, by omega⟩
  obtain ⟨rfl, hj⟩ := hxr;obtain ⟨q0, eq, lq⟩ := qv ns (k + 1 + j);rw [show ((k + 1 + j : Nat) : Int) = (k : Int) + (1 + (j : Int)) by omega] at eq;obtain ⟨w, q1, ew, lq1, w0, w1⟩ := eW lq (m := 4) oM;show ∃ s', _ = some (TR.nx s') /\ aZ ns k n s' /\ s'.yfound.length <= 2 * (j + 1);refine jF (S := aF) (fun o => ∃ s', o = some (TR.nx s') /\ aZ ns k n s' /\ s'.yfound.length <= 2 * (j + 1)) (by simp only [eq, map_some]; rfl) ?_;refine jF (S := aF) (fun o => ∃ s', o = some (TR.nx s') /\ aZ ns k n s' /\ s'.yfound.length <= 2 * (j + 1)) (by simp only [ew, map_some]; rfl) ?_;simp only [bn qE, map_some, bind_some, bn Aj, bn qD, oR];by_cases hw : w = 0
  ·rw [show (w == 0) = true by simp [hw]]
   simp only [if_true, bind_some];cases hB : (cR (n : Int)).isEmpty
   ·have hbl := hP.bl
    have hb0 : 0 < (cR (n : Int)).length := by
     cases hBB : cR (n : Int) with
     | nil => rw [hBB] at hB; cases hB
     | cons _ _ => simp
    obtain ⟨t, q2, et, lq2, t0, t1⟩ := eW lq1 (m := ((cR (n : Int)).length : Int)) oM;obtain ⟨t, rfl⟩ : ∃ i : Nat, t = (i : Int) := ⟨t.toNat, by omega⟩;have ht : t < (cR (n : Int)).length := by omega
    simp only [Bool.not_false, if_true, et, map_some, bind_some, gU ht];rw [bn (ej (by simp; omega))];obtain ⟨m1, m2, _⟩ := hP.bm _ (List.getElem_mem ht);refine ⟨_, rfl, ⟨rfl, rfl, rfl, rfl, rfl, fun y hy => ?_⟩, by simp; omega⟩;rcases List.mem_append.mp hy with hy | hy
    ·exact g6 y hy
    ·simp only [List.mem_cons, List.not_mem_nil, or_false] at hy
     rcases hy with rfl | rfl
     ·exact m1
     ·exact m2
   ·simp only [Bool.not_true, Bool.false_eq_true, if_false, bind_some]
    rw [show decide (w < 3) = true from decide_eq_true oM];simp only [if_true, bind_some];cases hE : (bG (n : Int)).isEmpty
    ·have hb0 : 0 < (bG (n : Int)).length := by
      cases hBB : bG (n : Int) with
      | nil => rw [hBB] at hE; cases hE
      | cons _ _ => simp
     obtain ⟨t, q2, et, lq2, t0, t1⟩ := eW lq1 (m := ((bG (n : Int)).length : Int)) oM;obtain ⟨t, rfl⟩ : ∃ i : Nat, t = (i : Int) := ⟨t.toNat, by omega⟩;have ht : t < (bG (n : Int)).length := by omega
     simp only [Bool.not_false, if_true, et, map_some, bind_some, gU ht];rw [bn (jV oM)];refine ⟨_, rfl, ⟨rfl, rfl, rfl, rfl, rfl, fun y hy => ?_⟩, by simp; omega⟩;rcases List.mem_append.mp hy with hy | hy
     ·exact g6 y hy
     ·rw [List.mem_singleton.mp hy]; exact List.getElem_mem ht
    ·simp only [Bool.not_true, Bool.false_eq_true, if_false]
     exact ⟨_, rfl, ⟨rfl, rfl, rfl, rfl, rfl, g6⟩, by dsimp only; omega⟩
  ·rw [show (w == 0) = false by simpa using hw]
   simp only [Bool.false_eq_true, if_false, bind_some];by_cases hw3 : w < 3
   ·rw [decide_eq_true hw3]
    simp only [if_true, bind_some];cases hE : (bG (n : Int)).isEmpty
    ·have hb0 : 0 < (bG (n : Int)).length := by
      cases hBB : bG (n : Int) with
      | nil => rw [hBB] at hE; cases hE
      | cons _ _ => simp
     obtain ⟨t, q2, et, lq2, t0, t1⟩ := eW lq1 (m := ((bG (n : Int)).length : Int)) oM;obtain ⟨t, rfl⟩ : ∃ i : Nat, t = (i : Int) := ⟨t.toNat, by omega⟩;have ht : t < (bG (n : Int)).length := by omega
     simp only [Bool.not_false, if_true, et, map_some, bind_some, gU ht];rw [bn (jV oM)];refine ⟨_, rfl, ⟨rfl, rfl, rfl, rfl, rfl, fun y hy => ?_⟩, by simp; omega⟩;rcases List.mem_append.mp hy with hy | hy
     ·exact g6 y hy
     ·rw [List.mem_singleton.mp hy]; exact List.getElem_mem ht
    ·simp only [Bool.not_true, Bool.false_eq_true, if_false]
     exact ⟨_, rfl, ⟨rfl, rfl, rfl, rfl, rfl, g6⟩, by dsimp only; omega⟩
   ·rw [decide_eq_false hw3]
    simp only [Bool.false_eq_true, if_false, bind_some];exact ⟨_, rfl, ⟨rfl, rfl, rfl, rfl, rfl, g6⟩, by dsimp only; omega⟩
 ·intro s hs
  obtain ⟨a1, a2, a3, a4, a5, a6, a7, a8, a9⟩ := s;obtain ⟨⟨g1, g2, g3, g4, g5, g6⟩, g7⟩ := hs;dsimp only at g1 g2 g3 g4 g5 g6 g7;subst g1; subst g2; subst g3;exact ⟨n, a6, rfl, hn1, hn4, g7, g6⟩
theorem yc (c : List K3 × List S3) (x : S3) : (stp c x).1 = stq c.1 x := by
 unfold stp stq;cases ce c.1 x.1 <;> cases ce c.1 x.2.1 <;> cases h : ce c.1 x.2.2 <;> simp;rw [jd (memT_iff.mp h)]
structure MS (n : Int) (ps : List K3) (s : aV) : Prop where
 hn : s.yn = n
 hp : s.ypairs_here = ps
 hr : s.yrows = cR n
 cp : Cp n ps s.ythere
 sl : s.ysteps.length <= s.ythere.length
 sm : ∀ x ∈ s.ysteps, x ∈ cR n
theorem yP {n : Int} (v : tG n) {ps : List K3} {many : Int} {c : List K3 × List S3} {put : aV -> S3 -> aV} {b : aV -> Option (TR aV (List K3 × List S3))}
  (hb : ∀ s x, MS n ps s -> s.ymany = many -> ∃ s', b (put s x) = some (.nx s') /\ s'.yn = n /\ s'.ypairs_here = ps /\ s'.yrows = cR n /\ s'.ymany = many /\ (s'.ythere, s'.ysteps) = stp (s.ythere, s.ysteps) x)
  (s : aV) (h1 : MS n ps s) (h2 : s.ymany = many) (h3 : (s.ythere, s.ysteps) = c) : ∃ s', dc put b (cR n) s = some (.nx s') /\ MS n ps s' /\ s'.ymany = many /\ (s'.ythere, s'.ysteps) = (cR n).foldl stp c := by
 refine hV (S := aV) (fun k s => MS n ps s /\ s.ymany = many /\ (s.ythere, s.ysteps) = ((cR n).take k).foldl stp c) ⟨h1, h2, by rw [h3]; rfl⟩ ?_ (fun s h => ⟨h.1, h.2.1, by rw [h.2.2, List.take_length]⟩);rintro k s x hx ⟨e1, e2, e3⟩;have hm := List.mem_of_getElem? hx;obtain ⟨s', g0, g1, g2, g3, g4, g5⟩ := hb s x e1 e2;have hcp : Cp n ps s'.ythere := by
  have := yc (s.ythere, s.ysteps) x
  rw [<- g5] at this;dsimp only at this;rw [this]; exact e1.cp.stq v hm
 refine ⟨s', g0, ⟨g1, g2, g3, hcp, ?_, ?_⟩, g4, ?_⟩
 ·rcases gw (s.ythere, s.ysteps) x with ⟨e, _⟩ | ⟨e, _⟩ <;> rw [e] at g5 <;> obtain ⟨q1, q2⟩ := Prod.mk.inj g5 <;> rw [q1, q2]
  ·exact e1.sl
  ·have := e1.sl; simp; omega
 ·intro y hy
  rcases gw (s.ythere, s.ysteps) x with ⟨e, _⟩ | ⟨e, _⟩ <;> rw [e] at g5 <;> obtain ⟨q1, q2⟩ := Prod.mk.inj g5 <;> rw [q2] at hy
  ·exact e1.sm y hy
  ·rcases List.mem_append.mp hy with hy | hy
   ·exact e1.sm y hy
   ·rw [List.mem_singleton.mp hy]; exact hm
 ·rw [g5, e3, List.take_succ, hx]
  simp [List.foldl_append]
theorem A1 {n : Int} {ps : List K3} {ft : aV -> Option (Bool × aV)} {fb : aV -> Option (TR aV (List K3 × List S3))}
  (hft : ∀ s, ft s = some (decide (s.ymany < (s.ythere.length : Int)), s)) (hfb : ∀ s, MS n ps s -> ∃ s', fb s = some (.nx s') /\ MS n ps s' /\ s'.ymany = (s.ythere.length : Int) /\ (s'.ythere, s'.ysteps) = (cR n).foldl stp (s.ythere, s.ysteps)) :
  ∀ (k fuel : Nat) (s : aV), 25 - s.ythere.length <= k -> k + 2 <= fuel -> s.ymany < (s.ythere.length : Int) -> MS n ps s ->
   ∃ a, fB ft fb fuel s = some a /\ ∃ s', a = .nx s' /\ MS n ps s' /\ ∀ x ∈ cR n, x.1 ∈ s'.ythere -> x.2.1 ∈ s'.ythere -> x.2.2 ∈ s'.ythere := by
 intro k
 induction k with
 | zero =>
  intro fuel s hk hf hm hc
  have := hc.cp.le
  omega
 | succ k ih =>
  intro fuel s hk hf hm hc;obtain ⟨f, rfl⟩ : ∃ f, fuel = f + 1 := ⟨fuel - 1, by omega⟩;obtain ⟨s1, e1, g1, g3, g4⟩ := hfb s hc;have hl := mN (cR n) (s.ythere, s.ysteps);rw [<- g4] at hl;dsimp only at hl;have e2 : fB ft fb (f + 1) s = fB ft fb f s1 := by
   simp only [fB, hft s, bind_some, show decide (s.ymany < (s.ythere.length : Int)) = true from decide_eq_true hm, if_true, e1]
  rw [e2];by_cases hq : s1.ythere.length = s.ythere.length
  ·obtain ⟨f2, rfl⟩ : ∃ f2, f = f2 + 1 := ⟨f - 1, by omega⟩
   obtain ⟨p1, p2⟩ := pv (cR n) (s.ythere, s.ysteps) (by rw [<- g4]; exact hq);rw [p1] at g4;have e3 : fB ft fb (f2 + 1) s1 = some (.nx s1) := by
    simp only [fB, hft s1, bind_some, show decide (s1.ymany < (s1.ythere.length : Int)) = false from decide_eq_false oM, Bool.false_eq_true, if_false]
   refine ⟨_, e3, s1, rfl, g1, ?_⟩;rw [(Prod.mk.inj g4).1];exact p2
  ·exact ih f s1 oM oM oM g1
theorem BR : gE ([] : List S3).length = true := ej (by simp)
theorem Ao {n : Int} (hN : N14 n) {ps : List K3} (hl : ps.length <= 100) (hp : ∀ x ∈ ps, x ∈ bG n) : ∃ st : List S3, n9 (n, ps, ()) = some ((FD n ps, st), n, ps, ()) /\ st.length <= 24 /\ ∀ x ∈ st, x.2.2 ∈ bG n := by
 have v := qu hN;unfold n9 o5;simp only [TT.tSeq, bind_some, map_some];refine ga (S := aV) (P := fun s => (s.yn = n /\ s.ypairs_here = ps) /\ s.ythere = ps.foldl cX []) (fun o => ∃ st : List S3, o = some ((FD n ps, st), n, ps, ()) /\ st.length <= 24 /\ ∀ x ∈ st, x.2.2 ∈ bG n) ?_ ?_
 ·refine ng (there := aV.ythere) (I := fun s => s.yn = n /\ s.ypairs_here = ps) (fun s a hi h => ?_) ⟨rfl, rfl⟩ (by dsimp only; simp; omega) (fun s' h1 h2 => ⟨h1, h2⟩)
  dsimp only;rw [bn (jV oM)];exact ⟨_, rfl, hi, rfl⟩
 ·rintro s0 ⟨⟨h1, h3⟩, h2⟩
  dsimp only;simp only [bn BR, h1, h2, v.br, map_some, bind_some, Option.bind_assoc];refine rH (P := fun a => ∃ s', a = TR.nx s' /\ MS n ps s' /\ ∀ x ∈ cR n, x.1 ∈ s'.ythere -> x.2.1 ∈ s'.ythere -> x.2.2 ∈ s'.ythere) (fun o => ∃ st : List S3, o = some ((FD n ps, st), n, ps, ()) /\ st.length <= 24 /\ ∀ x ∈ st, x.2.2 ∈ bG n) ?_ ?_
  ·refine A1 (fun s => rfl) (fun s hc => ?_) 25 100 _ oM oM (by show (-1 : Int) < _; omega) ⟨rfl, h3, rfl, Cp.init hN hp, Nat.zero_le _, fun x hx => absurd hx List.not_mem_nil⟩
   simp only [TT.tSeq, bind_some, hc.hr];refine yP v (c := (s.ythere, s.ysteps)) (many := (s.ythere.length : Int)) ?_ _ ⟨hc.hn, hc.hp, rfl, hc.cp, hc.sl, hc.sm⟩ rfl rfl;intro s2 x q1 q2;have hle := q1.cp.le;have hle2 := q1.sl;dsimp only;unfold stp;dsimp only;cases m1 : ce s2.ythere x.1
   ·simp only [bind_some, if_false, Bool.false_eq_true, Bool.false_and]
    exact ⟨_, rfl, q1.hn, q1.hp, q1.hr, q2, rfl⟩
   ·cases m2 : ce s2.ythere x.2.1
    ·simp only [bind_some, if_true, if_false, Bool.false_eq_true, Bool.false_and, Bool.and_false]
     exact ⟨_, rfl, q1.hn, q1.hp, q1.hr, q2, rfl⟩
    ·cases m3 : ce s2.ythere x.2.2
     ·simp only [bind_some, if_true, Bool.not_false, Bool.and_self, bn (jV (n := s2.ythere.length) oM), bn (jV (n := s2.ysteps.length) oM), map_some]
      exact ⟨_, rfl, q1.hn, q1.hp, q1.hr, q2, rfl⟩
     ·simp only [bind_some, if_true, if_false, Bool.false_eq_true, Bool.not_true, Bool.and_false]
      exact ⟨_, rfl, q1.hn, q1.hp, q1.hr, q2, rfl⟩
  ·rintro a ⟨s', rfl, hc, hcl⟩
   obtain ⟨ys, es, up, hm⟩ := og hc.cp.nd (fun x hx => v.bd x (hc.cp.sub x hx)) (by have := hc.cp.le; omega);simp only [es, map_some, bind_some];have ey : ys = FD n ps := n4 up (qc hN _) fun y => by
    rw [hm, FD_mem];refine ⟨fun h => ⟨hc.cp.sub y h, hc.cp.si y h⟩, fun h => h.2 (fun z => z ∈ s'.ythere) hc.cp.hs fun x hx h1 h2 => ?_⟩;rcases v.sb x hx with hb | hb
    ·exact hcl x hb h1 h2
    ·exact hcl (kQ x) hb h2 h1
   rw [ey, hc.hn, hc.hp];exact ⟨_, rfl, by have := hc.cp.le; have := hc.sl; omega, fun x hx => (v.bm x (hc.sm x hx)).2.2.1⟩
theorem fu {α : Type} (xs : List α) (a b : Option Int) : (fO xs a b).length <= xs.length := by
 unfold fO;rw [List.length_take, List.length_drop];omega
theorem zd {α : Type} {xs : List α} {a b : Option Int} {x : α} (h : x ∈ fO xs a b) : x ∈ xs := List.mem_of_mem_drop (List.mem_of_mem_take h)
theorem yd {xs : List K3} (hb : ∀ x ∈ xs, kG x = true) (hl : xs.length < 64) : ∃ ys, jj xs = some ys := by
 have hK : iZ (xs.map iF) = RK.ltN xs.length (fun i => kI (xs.getD i (0, 0, 0))) := by
  funext i j;unfold iZ RK.ltN;by_cases hi : i < xs.length
  ·by_cases hj : j < xs.length
   ·rw [if_pos ⟨hi, hj⟩, List.getElem?_map, List.getElem?_map, List.getElem?_eq_getElem hi, List.getElem?_eq_getElem hj]
    simp only [map_some, bind_some];rw [vo (hb _ (List.getElem_mem hi)) (hb _ (List.getElem_mem hj))];simp [List.getD, hi, hj]
   ·rw [if_neg oM, List.getElem?_map, List.getElem?_map, List.getElem?_eq_none (Nat.le_of_not_lt hj)]
    cases xs[i]? <;> rfl
  ·rw [if_neg oM, List.getElem?_map, List.getElem?_eq_none (Nat.le_of_not_lt hi)]
   rfl
 obtain ⟨q, e, pm⟩ := wc (key := fun i => kI (xs.getD i (0, 0, 0))) hl;have hall : (q.all fun i => decide (i < xs.length)) = true := List.all_eq_true.mpr fun i hi => decide_eq_true (by rw [pm.mem_iff, List.mem_range] at hi; exact hi)
 unfold jj;rw [hK, e];simp only [bind_some, hall, if_true];exact ⟨_, rfl⟩
theorem BQ {x : K3} : gE [x].length = true := ej (by simp)
theorem rK {F : List K3} (hF : F.length <= 24) (hb : ∀ x ∈ F, kG x = true) {x : K3} (hx : kG x = true) {p : List Int} (hp : p.length = 3) : ∃ G p', gn (F, p, x, ()) = some (G, F, p', x, ()) /\ p'.length = 3 := by
 obtain ⟨w, p1, e1, l1, w0, w1⟩ := eW hp (m := 4) oM;obtain ⟨a, p2, e2, l2, a0, a1⟩ := eW l1 (m := (F.length : Int) + 1) oM;obtain ⟨ys, es⟩ := yd (xs := F ++ [x]) (fun y hy => by
  rcases List.mem_append.mp hy with hy | hy
  ·exact hb y hy
  ·rw [List.mem_singleton.mp hy]; exact hx) (by simp; omega)
 have c1 := fu F none (some a);have c2 := fu F (some (a + 1)) none;have c3 := fu F (some a) (some (a + 1));have c4 := fu F (some a) none;unfold gn iE;simp only [TT.tSeq, bind_some, map_some, e1, e2, bn qE, bn BQ];cases (w == 0)
 ·simp only [Bool.false_eq_true, if_false, bind_some]
  cases (w == 1)
  ·simp only [Bool.false_eq_true, if_false, bind_some]
   cases (w == 2)
   ·simp only [Bool.false_eq_true, if_false, bind_some]
    exact ⟨_, _, rfl, l2⟩
   ·simp only [if_true, bind_some, bn (ej (n := (fO F none (some a)).length + (fO F (some a) (some (a + 1))).length) oM), map_some]
    rw [bn (ej (by simp only [List.length_append]; omega))];exact ⟨_, _, rfl, l2⟩
  ·simp only [if_true, bind_some]
   rw [bn (ej (by simp; omega))];simp only [bind_some, es, map_some];exact ⟨_, _, rfl, l2⟩
 ·simp only [if_true, bind_some]
  rw [bn (ej oM)];exact ⟨_, _, rfl, l2⟩
theorem CI {x : S3} : gE [x].length = true := ej (by simp)
theorem CG {x y : S3} : gE [x, y].length = true := ej (by simp)
theorem CH {x y : List S3} : gE [x, y].length = true := ej (by simp)
theorem CF {a b c d e : List S3} : gE [a, b, c, d, e].length = true := ej (by simp)
theorem rJ {F : List S3} (hF : F.length <= 24) (h0 : 0 < F.length) {x : List K3} (hx : x.length = 3) {p : List Int} (hp : p.length = 3) : ∃ G p', iw (F, p, x, ()) = some (G, F, p', x, ()) := by
 obtain ⟨w, p1, e1, l1, w0, w1⟩ := eW hp (m := 10) oM;obtain ⟨a, p2, e2, l2, a0, a1⟩ := eW l1 (m := (F.length : Int)) oM;obtain ⟨a, rfl⟩ : ∃ i : Nat, a = (i : Int) := ⟨a.toNat, by omega⟩;have ha : a < F.length := by omega
 obtain ⟨x0, x1, x2, rfl⟩ : ∃ a b c, x = [a, b, c] := by
  match x, hx with
  | [a, b, c], _ => exact ⟨a, b, c, rfl⟩
 have i0 : cy [x0, x1, x2] 0 = some x0 := rfl;have i1 : cy [x0, x1, x2] 1 = some x1 := rfl;have i2 : cy [x0, x1, x2] 2 = some x2 := rfl;have c1 := fu F none (some (a : Int));have c2 := fu F (some ((a : Int) + 1)) none;have c4 := fu F (some (a : Int)) none;have c5 := fu F (some 1) none;have c6 := fu F none (some 1);unfold iw iD;simp only [TT.tSeq, bind_some, map_some, e1, e2, gU ha, bn BR, bn CI, bn CG, i0, i1, i2, bn CF, bn CH, bn qE];rw [bn (ej (by simp))];simp only [bind_some, map_some];by_cases h7 : w < 7
 ·obtain ⟨w, rfl⟩ : ∃ i : Nat, w = (i : Int) := ⟨w.toNat, by omega⟩
  rw [decide_eq_true h7, if_pos rfl];have hw : ∀ l : List (List S3), l.length = 7 -> (∀ y ∈ l, y.length <= 2) -> ∃ g, cy l (w : Int) = some g /\ g.length <= 2 := fun l h h2 => ⟨l[w], gU oM, h2 _ (List.getElem_mem _)⟩
  refine (hw ([[], [F[a], F[a]], [(F[a].2.1, F[a].1, F[a].2.2)], [(x0, F[a].2.1, F[a].2.2)], [(F[a].1, x0, F[a].2.2)]] ++ [[(F[a].1, F[a].2.1, x0)], [F[a], (x0, x1, x2)]]) rfl (by simp)).elim fun g hg => ?_
  rw [hg.1];have hg2 := hg.2;simp only [bind_some, map_some];rw [bn (ej oM)];simp only [bind_some, map_some];rw [bn (ej (by simp only [List.length_append]; omega))];exact ⟨_, _, rfl⟩
 ·rw [decide_eq_false h7, if_neg dC]
  simp only [bind_some, map_some];cases (w == 7)
  ·simp only [Bool.false_eq_true, if_false, bind_some]
   cases (w == 8)
   ·simp only [Bool.false_eq_true, if_false, bind_some]
    rw [bn (ej (by simp; omega))];simp only [bind_some, map_some];rw [bn (ej (by simp only [List.length_append, List.length_cons, List.length_nil]; omega))];exact ⟨_, _, rfl⟩
   ·simp only [if_true, bind_some]
    rw [bn (ej oM)];exact ⟨_, _, rfl⟩
  ·simp only [if_true, bind_some]
   exact ⟨_, _, rfl⟩
theorem Ck {a b : List S3} : (Py.ok (rL (aa (aa TT.rI TT.rI TT.rI) (aa TT.rI TT.rI TT.rI) (aa TT.rI TT.rI TT.rI))) a && Py.ok (rL (aa (aa TT.rI TT.rI TT.rI) (aa TT.rI TT.rI TT.rI) (aa TT.rI TT.rI TT.rI))) b && decide (min (Py.k (rL (aa (aa TT.rI TT.rI TT.rI) (aa TT.rI TT.rI TT.rI) (aa TT.rI TT.rI TT.rI)))) (Py.k (rL (aa (aa TT.rI TT.rI TT.rI) (aa TT.rI TT.rI TT.rI) (aa TT.rI TT.rI TT.rI)))) <= 50)) = true := Aj
theorem CM {a b : K3} : (Py.ok (aa TT.rI TT.rI TT.rI) a && Py.ok (aa TT.rI TT.rI TT.rI) b && decide (min (Py.k (aa TT.rI TT.rI TT.rI)) (Py.k (aa TT.rI TT.rI TT.rI)) <= 50)) = true := rfl
theorem zi {xs : List S3} (h : 0 < xs.length) : ∃ z, cy xs (-1) = some z := by
 have hx : xs ≠ [] := List.ne_nil_of_length_pos h;rw [<- List.dropLast_concat_getLast hx];exact ⟨_, L2.atI_last _ _⟩
theorem CP {S α β ρ γ γ' : Type} {ft : α -> S -> Option (Bool × S)} {fe : α -> S -> Option (β × S)} {xs : List α} {s : S} {k1 : List β × S -> TR S ρ} {k : TR S ρ -> Option γ'} {k2 : γ' -> Option γ} {I : S -> Prop} {R : β -> Prop} (Q : Option γ -> Prop)
  (ht : ∀ s x, x ∈ xs -> I s -> ft x s = some (true, s)) (he : ∀ s x, x ∈ xs -> I s -> ∃ y s', fe x s = some (y, s') /\ I s' /\ R y) (h0 : I s) (hk : ∀ ys s', I s' -> ys.length = xs.length -> (∀ y ∈ ys, R y) -> Q ((k (k1 (ys, s'))).bind k2)) : Q (((Option.map k1 (TT.tLc ft fe xs s)).bind k).bind k2) := by
 obtain ⟨ys, s', e, hi, hl, hr⟩ := vq ht he h0;rw [e]; exact hk ys s' hi hl hr
structure BS (n : Int) (ps F : List K3) (st : List S3) (w : Int) (s : ax) : Prop where
 h1 : s.yn = n
 h2 : s.ypairs_here = ps
 h3 : s.yfound = F
 h4 : s.ysteps = st
 h5 : s.yevery = bG n
 h6 : s.yway = w
 h7 : s.ypile_here.length = 3
theorem AO {n : Int} (hN : N14 n) {ps : List K3} (hl : ps.length <= 50) (hp : ∀ x ∈ ps, x ∈ bG n) {p : List Int} (hq : p.length = 3) :
  ∃ (qs F : List K3) (st : List S3) (p' : List Int), oa (n, ps, p, ()) = some ((qs, F, st), n, ps, p', ()) /\ qs.length <= 100 /\ ∀ x ∈ qs, x ∈ bG n := by
 have v := qu hN;have hpl := (nq hN).pl;have hF := AZ hN ps;have r3 : iy 3 = true := uO oM oM;obtain ⟨st, em, ls, ms⟩ := Ao hN oM hp;obtain ⟨w, p1, e1, l1, w0, w1⟩ := eW hq (m := 8) oM;unfold oa o6;simp only [TT.tSeq, bind_some, map_some, em, e1, v.pr, bn Cm, oR, bn qE, bn r3];cases hE : (bG n).isEmpty
 ·have hb0 : 0 < (bG n).length := by
   cases hBB : bG n with
   | nil => rw [hBB] at hE; cases hE
   | cons _ _ => simp
  simp only [Bool.false_eq_true, if_false, bind_some];cases hw0 : (w == 0)
  ·simp only [Bool.false_eq_true, if_false, bind_some]
   rw [bn (ej dC)];refine CP (S := ax) (I := BS n ps (FD n ps) st w) (R := fun y => y ∈ bG n) (fun o => ∃ (qs F : List K3) (st : List S3) (p' : List Int), o = some ((qs, F, st), n, ps, p', ()) /\ qs.length <= 100 /\ ∀ x ∈ qs, x ∈ bG n) (fun s x _ _ => rfl) (fun s x _ hs => ?_) ⟨rfl, rfl, rfl, rfl, rfl, rfl, l1⟩ fun ds s' hs hdl hd => ?_
   ·obtain ⟨t, q2, et, lq2, t0, t1⟩ := eW hs.h7 (m := ((bG n).length : Int)) oM
    obtain ⟨t, rfl⟩ : ∃ i : Nat, t = (i : Int) := ⟨t.toNat, by omega⟩;have ht : t < (bG n).length := by omega
    simp only [hs.h5, et, map_some, bind_some, gU ht];exact ⟨_, _, rfl, ⟨hs.h1, hs.h2, hs.h3, hs.h4, rfl, hs.h6, lq2⟩, List.getElem_mem _⟩
   ·obtain ⟨a1, a2, a3, a4, a5, a6, a7, a8⟩ := s'
    obtain ⟨g1, g2, g3, g4, g5, g6, g7⟩ := hs;dsimp only at g1 g2 g3 g4 g5 g6 g7;cases g1.symm; cases g2.symm; cases g3.symm; cases g4.symm; cases g5.symm; cases g6.symm;have hd3 : ds.length = 3 := hdl;have hd0 : cy ds 0 = some (ds[0]'(by omega)) := gU (j := 0) oM;dsimp only;simp only [bn Ck, bn qE, oR, map_some, bind_some];have part : ∀ b : Bool, b = true -> ∃ (G : List K3) (p' : List Int), gn (FD n ps, a3, ds[0]'(by omega), ()) = some (G, FD n ps, p', ds[0]'(by omega), ()) /\ p'.length = 3 := fun _ _ => rK hF (fun x hx => v.bd x (FD_mem.mp hx).1) (v.bd _ (hd _ (List.getElem_mem _))) g7
    cases h3 : decide (w < 3)
    ·simp only [Bool.false_eq_true, if_false, bind_some]
     cases hS : st.isEmpty
     ·have hs0 : 0 < st.length := by
       cases hBB : st with
       | nil => rw [hBB] at hS; cases hS
       | cons _ _ => simp
      simp only [Bool.false_eq_true, if_false, bind_some];cases (w == 3)
      ·simp only [Bool.false_eq_true, if_false, bind_some]
       cases (w == 4)
       ·simp only [Bool.false_eq_true, if_false, bind_some]
        cases (w == 5)
        ·obtain ⟨G, p', eg⟩ := rJ oM hs0 hd3 g7
         simp only [Bool.false_eq_true, if_false, bind_some, eg, map_some];exact ⟨_, _, _, _, rfl, by omega, hp⟩
        ·obtain ⟨z, ez⟩ := zi hs0
         simp only [if_true, bind_some, bn (ej (n := (FD n ps).length) oM)];rw [pA (p := fun x => !(x.1 == z.2.2.1 && (x.2.1 == z.2.2.2.1 && x.2.2 == z.2.2.2.2))) (f := fun x => x) (fun x _ => by simp only [ez, map_some, bind_some, bn CM]) (fun _ _ _ => rfl)];exact ⟨_, _, _, _, rfl, by omega, hp⟩
       ·obtain ⟨t, q2, et, lq2, t0, t1⟩ := eW g7 (m := (st.length : Int)) oM
        obtain ⟨t, rfl⟩ : ∃ i : Nat, t = (i : Int) := ⟨t.toNat, by omega⟩;have ht : t < st.length := by omega
        simp only [if_true, bind_some, et, map_some, gU ht, bn BQ];rw [bn (ej (by simp; omega))];refine ⟨_, _, _, _, rfl, by simp; omega, fun x hx => ?_⟩;rcases List.mem_append.mp hx with hx | hx
        ·exact hp x hx
        ·rw [List.mem_singleton.mp hx]; exact ms _ (List.getElem_mem _)
      ·simp only [if_true, bind_some]
       exact ⟨_, _, _, _, rfl, by have := fu ps none (some (-1)); omega, fun x hx => hp x (zd hx)⟩
     ·obtain ⟨G, p', eg, lg⟩ := part true rfl
      simp only [if_true, bind_some, hd0, map_some, eg];exact ⟨_, _, _, _, rfl, by omega, hp⟩
    ·obtain ⟨G, p', eg, lg⟩ := part true rfl
     simp only [if_true, bind_some, hd0, map_some, eg];exact ⟨_, _, _, _, rfl, by omega, hp⟩
  ·simp only [if_true, bind_some]
   exact ⟨_, _, _, _, rfl, by omega, hp⟩
 ·simp only [if_true, bind_some]
  exact ⟨_, _, _, _, rfl, by omega, hp⟩
theorem CN {a b : List K3 × List K3 × List S3} : (Py.ok (aa (TT.rM (aa TT.rI TT.rI TT.rI)) (TT.rM (aa TT.rI TT.rI TT.rI)) (TT.rM (aa (aa TT.rI TT.rI TT.rI) (aa TT.rI TT.rI TT.rI) (aa TT.rI TT.rI TT.rI)))) a && Py.ok (aa (TT.rM (aa TT.rI TT.rI TT.rI)) (TT.rM (aa TT.rI TT.rI TT.rI)) (TT.rM (aa (aa TT.rI TT.rI TT.rI) (aa TT.rI TT.rI TT.rI) (aa TT.rI TT.rI TT.rI)))) b && decide (min (Py.k (aa (TT.rM (aa TT.rI TT.rI TT.rI)) (TT.rM (aa TT.rI TT.rI TT.rI)) (TT.rM (aa (aa TT.rI TT.rI TT.rI) (aa TT.rI TT.rI TT.rI) (aa TT.rI TT.rI TT.rI))))) (Py.k (aa (TT.rM (aa TT.rI TT.rI TT.rI)) (TT.rM (aa TT.rI TT.rI TT.rI)) (TT.rM (aa (aa TT.rI TT.rI TT.rI) (aa TT.rI TT.rI TT.rI) (aa TT.rI TT.rI TT.rI))))) <= 50)) = true := by
 have h : ∀ a : List K3 × List K3 × List S3, Py.ok (aa (TT.rM (aa TT.rI TT.rI TT.rI)) (TT.rM (aa TT.rI TT.rI TT.rI)) (TT.rM (aa (aa TT.rI TT.rI TT.rI) (aa TT.rI TT.rI TT.rI) (aa TT.rI TT.rI TT.rI)))) a = true := fun a => by
  show (a.1.all _ && a.2.1.all _ && a.2.2.all _) = true;simp only [Bool.and_eq_true, List.all_eq_true];exact ⟨⟨fun _ _ => rfl, fun _ _ => rfl⟩, fun _ _ => rfl⟩
 rw [h, h]; rfl
theorem CU (xs : List S3) : j6 (fun (a b : S3) => a.1.1 == b.1.1 && (a.1.2.1 == b.1.2.1 && a.1.2.2 == b.1.2.2) && (a.2.1.1 == b.2.1.1 && (a.2.1.2.1 == b.2.1.2.1 && a.2.1.2.2 == b.2.1.2.2) && (a.2.2.1 == b.2.2.1 && (a.2.2.2.1 == b.2.2.2.1 && a.2.2.2.2 == b.2.2.2.2)))) xs xs = true := nb (fun a => by simp) xs
theorem CV (xs : List K3) : j6 (fun (a b : K3) => a.1 == b.1 && (a.2.1 == b.2.1 && a.2.2 == b.2.2)) xs xs = true := nb (fun a => by simp) xs
theorem zy {m : Nat} {k : Nat} {x : Int} (hx : (rng 0 (m : Int))[k]? = some x) : x = (k : Int) /\ k < m := by
 unfold rng at hx;rw [List.getElem?_map] at hx;rcases hk : (List.range ((m : Int) - 0).toNat)[k]? with _ | i
 ·rw [hk] at hx; cases hx
 ·rw [hk] at hx
  have h1 := (List.getElem?_eq_some_iff.mp hk).1;have h2 := (List.getElem?_eq_some_iff.mp hk).2;simp only [List.getElem_range] at h2;simp only [List.length_range] at h1;subst h2;have h3 : (0 : Int) + (k : Int) = x := Option.some.inj hx;exact ⟨by omega, by omega⟩
theorem p6 : decide ((0 : Int) <= 6 /\ (6 : Int) <= 1000000 /\ Int.natAbs 10 < 2 ^ 64) = true := by decide
theorem CQ : mZ "bool" "bool" = some true := rfl
structure LS (ns : List Int) (k n : Nat) (ps : List K3) (s : aT) : Prop where
 h1 : s.yscript = ns
 h2 : s.yturn = (k : Int)
 h3 : s.yn = (n : Int)
 h4 : s.ypairs_here = ps
theorem law_t (ns : List Int) (hl : ns.length <= 63) : ∃ q, tT (ns, ()) = some (true, q) := by
 have r8 : iy 8 = true := uO oM oM;have r3 : iy 3 = true := uO oM oM;unfold tT uA;simp only [TT.tSeq, bind_some, map_some, bn r8];refine ga (S := aT) (P := fun s => True) (fun o => ∃ q, o = some (true, q)) ?_ fun s' h => ⟨_, rfl⟩
 refine hV (S := aT) (fun k s => s.yscript = ns) rfl ?_ (fun _ _ => trivial);intro k s x hx e1;obtain ⟨rfl, hk8⟩ := zy (m := 8) hx;clear hx;have m7 : hU 7 (k : Int) = true := ld oM;obtain ⟨n, ps, ed, hn1, hn4, pl, hp⟩ := za ns (7 * k);rw [show ((7 * k : Nat) : Int) = 7 * (k : Int) by omega] at ed;have hN : N14 (n : Int) := ⟨by omega, by omega⟩;obtain ⟨a1, a2, a3, a4, a5, a6, a7, a8, a9, a10, a11⟩ := s;dsimp only at e1;subst e1;refine jF (S := aT) (fun o => ∃ s', o = some (TR.nx s') /\ s'.yscript = a1) (by simp only [bn m7, map_some, bind_some, ed]; rfl) ?_;rw [bn r3];simp only [bind_some];refine hV (S := aT) (fun j s => LS a1 k n ps s) ⟨rfl, rfl, rfl, rfl⟩ ?_ (fun _ h => h.h1);intro j s x hx hs;obtain ⟨rfl, hj⟩ := zy (m := 3) hx;clear hx;obtain ⟨b1, b2, b3, b4, b5, b6, b7, b8, b9, b10, b11⟩ := s;obtain ⟨g1, g2, g3, g4⟩ := hs;dsimp only at g1 g2 g3 g4;cases g1.symm; cases g2.symm; cases g3.symm; cases g4.symm;have m2 : hU 2 (j : Int) = true := ld oM;obtain ⟨p0, ep, lp⟩ := qv a1 (7 * k + 1 + 2 * j);rw [show ((7 * k + 1 + 2 * j : Nat) : Int) = 7 * (k : Int) + 1 + 2 * (j : Int) by omega] at ep;obtain ⟨u0, u1, u2, rfl⟩ : ∃ a b c, p0 = [a, b, c] := by
  match p0, lp with
  | [a, b, c], _ => exact ⟨a, b, c, rfl⟩
 have fd : ∀ a : Int, rf a (10 ^ Int.toNat 6) = true := fun a => AH dC
 refine jF (S := aT) (fun o => ∃ s', o = some (TR.nx s') /\ LS a1 k n ps s') (by simp only [bn m7, bn m2, map_some, bind_some, ep]; rfl) ?_;refine jF (S := aT) (fun o => ∃ s', o = some (TR.nx s') /\ LS a1 k n ps s') (by simp only [show cy [u0, u1, u2] 0 = some u0 from rfl, bn p6, bind_some, bn (fd u0), map_some, show fD [u0, u1, u2].length 0 = some 0 from rfl]; rfl) ?_;refine jF (S := aT) (fun o => ∃ s', o = some (TR.nx s') /\ LS a1 k n ps s') (by simp only [List.set, show ∀ z, cy [z, u1, u2] 2 = some u2 from fun _ => rfl, bind_some, map_some, show ∀ z, fD [z, u1, u2].length 2 = some 2 from fun _ => rfl]; rfl) ?_;obtain ⟨qs, F, st, p', eb, ql, qm⟩ := AO hN (ps := ps) oM hp (p := [u0 / 10 ^ Int.toNat 6, u1, u2 + 50]) rfl;refine jF (S := aT) (fun o => ∃ s', o = some (TR.nx s') /\ LS a1 k n ps s') (by simp only [List.set]; rw [eb]; rfl) ?_;refine jF (S := aT) (fun o => ∃ s', o = some (TR.nx s') /\ LS a1 k n ps s') rfl ?_;refine jF (S := aT) (fun o => ∃ s', o = some (TR.nx s') /\ LS a1 k n ps s') (by simp only [AF hN ql qm, map_some]; rfl) ?_;refine jF (S := aT) (fun o => ∃ s', o = some (TR.nx s') /\ LS a1 k n ps s') (by simp only [yh hN ql qm, CQ, map_some, bind_some, Bool.not_true, Bool.false_eq_true, if_false, bn TT.okB, beq_self_eq_true]; rfl) ?_;simp only [bn CN, CV, CU];simp only [map_some, bind_some, Bool.and_self, Bool.not_true, Bool.false_eq_true, if_false];refine ⟨_, rfl, ?_⟩;exact ⟨rfl, rfl, rfl, rfl⟩
theorem holds : ∀ ns : List Int, ns.length <= 63 -> ∃ d, jw [.lst false (ns.map D.int)] = some (.bl true, [d]) := wS BD law_t
end LW
def PySem.W.Fast.tw16266860142828361023:=()
def PySem.W.Fast.tw4351232056298346965:=()
def PySem.W.Fast.tw13603491924245211303:=()
def PySem.W.Fast.tw14916310256093449890:=()
def PySem.W.Fast.tw2741513801395644818:=()
def PySem.W.Fast.tw9545274312870239821:=()
def PySem.W.Fast.tw14344656813778409548:=()
def PySem.W.Fast.tw16503913697615768904:=()
def PySem.W.Fast.tw1357865555019150477:=()
def PySem.W.Fast.tw6883836834401174286:=()
def PySem.W.Fast.tw1082069872026559065:=()
def PySem.W.Fast.tw445857141068058135:=()
open PySem PySem.W PyProof.Rows
set_option maxRecDepth 100000 in
set_option maxHeartbeats 0 in
theorem PySem.Challenge.cw_telltight_k61_steps_looked_at_holds : PySem.Challenge.rw_telltight_k61_steps_looked_at.Holds := by
 w_on; o_law; k_head; (case hw => w_witness2)
 k_fill
 refine LW.B3 (l := PySem.Challenge.rw_telltight_k61_steps_looked_at) rfl rfl (fun w h Y => kIn_of Y) LW.holds ?F
 case F =>
  intro w mg fa h KX G hmg;refine' LW.AQ KX G hmg ?a0 ?l0 ?c0 ?k0 ?a1 ?l1 ?c1 ?k1 ?a2 ?l2 ?c2 ?k2 ?a3 ?l3 ?c3 ?k3 ?a4 ?l4 ?c4 ?k4 ?a5 ?l5 ?c5 ?k5 ?a6 ?l6 ?c6 ?k6 ?a7 ?l7 ?c7 ?k7 ?a8 ?l8 ?c8 ?k8 ?a9 ?l9 ?c9 ?k9 ?a10 ?l10 ?c10 ?k10 ?a11 ?l11 ?c11 ?k11 ?a12 ?l12 ?c12 ?k12 ?a13 ?l13 ?c13 ?k13 ?a14 ?l14 ?c14 ?k14 ?a15 ?l15 ?c15 ?k15 ?a16 ?l16 ?c16 ?k16 ?a17 ?l17 ?c17 ?k17 ?a18 ?l18 ?c18 ?k18 ?a19 ?l19 ?c19 ?k19 ?a20 ?l20 ?c20 ?k20 ?a21 ?l21 ?c21 ?k21 ?a22 ?l22 ?c22 ?k22 ?a23 ?l23 ?c23 ?k23 ?a24 ?l24 ?c24 ?k24 ?z_abs ?z_bool ?z_dict ?z_int ?z_isinstance ?z_len ?z_list ?z_max ?z_min ?z_range ?iP
  case a0|a1|a2|a3|a4|a5|a6|a7|a8|a9|a10|a11|a12|a13|a14|a15|a16|a17|a18|a19|a20|a21|a22|a23|a24 => delta LW.eI; k_is
  case l0|l1|l2|l3|l4|l5|l6|l7|l8|l9|l10|l11|l12|l13|l14|l15|l16|l17|l18|l19|l20|l21|l22|l23|l24 => delta LW.eJ LW.cD; k_is
  case c0|c1|c2|c3|c4|c5|c6|c7|c8|c9|c10|c11|c12|c13|c14|c15|c16|c17|c18|c19|c20|c21|c22|c23|c24 => delta LW.eM; k_is
  case k0|k1|k2|k3|k4|k5|k6|k7|k8|k9|k10|k11|k12|k13|k14|k15|k16|k17|k18|k19|k20|k21|k22|k23|k24 => delta LW.eK; k_is
  case z_abs|z_bool|z_dict|z_int|z_isinstance|z_len|z_list|z_max|z_min|z_range|iP => k_is
#print axioms PySem.Challenge.cw_telltight_k61_steps_looked_at_holds
