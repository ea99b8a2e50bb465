import PyProof.Rows.All
import Wide.All
import OpenK.AllK
import Wide.FinOn
import Lean
import PyProof.EqAt
import PyProof.EqKinds
import PyProof.TupleCall
import PyProof.FactsAll.list_3
import PyProof.EnumMake
import PyProof.Draws
import PyProof.Rows.CallKwBuiltin
import PyProof.ListRange
import PyProof.TupleIter
import PyProof.Rows.Range3
import PyProof.ZipIter
import PyProof.FactsAll.int_0
import PyProof.FactsAll.int_6
import PyProof.Rows.RuleM_int
import PyProof.ReprNest
import PyProof.ReprLen
import PyProof.StrOps
import KE.KDictOf
import PyProof.AttrMissHeap
import PyProof.MeetsDictList
import PyProof.DictRoadsH
import KE.KSortTup
import KE.KDictList
import PyProof.Rows.SortShell
import PyProof.MeetsSeq3
import PyProof.FactsAll.list_2
import KE.KSortAsk
import PyProof.TupleOfSeq
import PyProof.StrCalls2
import PyProof.StrCalls
import PyProof.Rows.StrJoin2
import KE.KIntText
import PyProof.CallStr
import PyProof.Rows.StrLen
import PyProof.StrBlockH
import PyProof.SliceStr2
import PyProof.StrWalks
import PyProof.StrLoop
import PyProof.Rows.FStr
import PyProof.StrOps2
import KE.KItemsList
import PyProof.StrLawsChain
import PyProof.Rows.StrBin
import PyProof.Rows.CatFin
import PySem.Challenge.RW_telltight_k74_sayings_as_texts
set_option bootstrap.genMatcherCode false
set_option compiler.extract_closed false
open Option (bind_some map_some)
open PySem.W (InstAt callWith_K cellsFrom_some codeIn codeRec_of findIn fnOf hasDictIn hideAll hideAll_get hideAll_none hideAll_size instObj kIn_of keepIn ki_setAt ki_setBack kia_one kitOne kitx_bool kitx_dict kitx_float kitx_int kitx_list kitx_none kitx_own kitx_str kitx_tuple lookIn methodObj mg_none_of mg_of mroIn nsIn of_hideAll plainGet plainOver specialIn takesIn)
theorem oM {p : Prop} (h : p := by first | omega | (refine @id (@Ne Nat _ _) ?_; omega)) : p := h
theorem dC {p : Prop} (h : p := by decide) : p := h
set_option Elab.async false
set_option linter.all false
set_option maxRecDepth 100000
theorem o7 (_ : True := by first | exact .inl rfl | exact .inr rfl | assumption) : True := trivial
theorem cx (_ : True := by decide) : True := trivial
theorem Gu (_ : True := by first | exact y2 _ dC dC | rfl) : True := trivial
theorem li (_ : True := by intro _; rfl) : True := trivial
theorem au (_ : True := by rfl) : True := trivial
theorem E6 (_ : True := by intros; rfl) : True := trivial
theorem Aq (_ : True := by exact trivial) : True := trivial
theorem qy (_ : True := by first | exact Or.inl rfl | exact Or.inr (Or.inl rfl) | exact Or.inr (Or.inr rfl)) : True := trivial
theorem jP (_ : True := by intro _ _; rfl) : True := trivial
theorem Ap (_ : True := by first | exact Or.inl rfl | exact Or.inr rfl) : True := trivial
theorem j4 (_ : True := by (first | exact Le.refl | (repeat (first | exact Le.nil | refine Le.som inferInstance ?_ | refine Le.non ?_)))) : True := trivial
theorem j3 (_ : True := by intro _; repeat (first | exact Fr.nil | refine Fr.som (fun _ _ h => h) ?_ | refine Fr.non ?_)) : True := trivial
theorem FM (_ : True := by infer_instance) : True := trivial
theorem Dx (_ : True := by intro _; repeat (first | exact Le.nil | refine Le.som inferInstance ?_ | refine Le.non ?_)) : True := trivial
namespace L2
open PySem PySem.Spec PyProof.Rows
noncomputable abbrev fD := Sum Int Str
noncomputable def zW : fD -> Value -> Bool
 | .inl k, v => Value.isInt k v
 | .inr x, v => Value.isStrOf x v
noncomputable def Fv (w : World) : fD -> Int
 | .inl k => hashInt k
 | .inr x => hashStr w x
theorem dc : ∀ {k : fD} {v : Value}, zW k v = true -> (∃ i t, k = Sum.inl i /\ v = Value.int i t) \/ (∃ x t, k = Sum.inr x /\ v = Value.str x t)
 | .inl i, v, h => by
  obtain ⟨t, e⟩ := Value.isInt_shape (k := i) (v := v) h;exact .inl ⟨i, t, rfl, e⟩
 | .inr x, v, h => by
  obtain ⟨t, e⟩ := Value.isStrOf_shape (x := x) (v := v) h;exact .inr ⟨x, t, rfl, e⟩
theorem CP (a b : Int) : decide ((Sum.inl a : fD) = Sum.inl b) = (a == b) := by
 by_cases e : a = b
 ·subst e; simp
 ·have h : ¬ (Sum.inl a : fD) = Sum.inl b := fun q => e (Sum.inl.inj q)
  rw [decide_eq_false h];exact (beq_eq_false_iff_ne.mpr e).symm
theorem CM (a b : Str) : decide ((Sum.inr a : fD) = Sum.inr b) = decide (a = b) := by
 by_cases e : a = b
 ·subst e; simp
 ·have h : ¬ (Sum.inr a : fD) = Sum.inr b := fun q => e (Sum.inr.inj q)
  rw [decide_eq_false h, decide_eq_false e]
theorem CO (a : Int) (b : Str) : decide ((Sum.inl a : fD) = Sum.inr b) = false := decide_eq_false (fun q => nomatch q)
theorem CN (a : Str) (b : Int) : decide ((Sum.inr a : fD) = Sum.inl b) = false := decide_eq_false (fun q => nomatch q)
noncomputable def uW (prog : Program) (w : World) : PySem.KeyKind prog w fD where
 is := zW
 hash := Fv w
 inj := fun v a b ha hb => by
  rcases dc ha with ⟨i, t, rfl, rfl⟩ | ⟨x, t, rfl, rfl⟩
  ·rcases dc hb with ⟨j, u, rfl, e⟩ | ⟨y, u, rfl, e⟩
   ·injection e with e1 _; rw [e1]
   ·exact nomatch e
  ·rcases dc hb with ⟨j, u, rfl, e⟩ | ⟨y, u, rfl, e⟩
   ·exact nomatch e
   ·injection e with e1 _; rw [e1]
 byValue := fun k v h => by
  rcases dc h with ⟨i, t, rfl, rfl⟩ | ⟨x, t, rfl, rfl⟩ <;> rfl
 pyHash := fun hv h => by
  rcases dc hv with ⟨i, t, rfl, rfl⟩ | ⟨x, t, rfl, rfl⟩
  ·exact wpAny_pyHash_int h
  ·exact wpAny_pyHash_str h
 eqBool := fun hu hv h => by
  rcases dc hu with ⟨i, t, rfl, rfl⟩ | ⟨x, t, rfl, rfl⟩
  ·rcases dc hv with ⟨j, u, rfl, rfl⟩ | ⟨y, u, rfl, rfl⟩
   ·rw [CP] at h; exact wpAny_eqBool_int h
   ·rw [CO] at h; exact SeqAt.EqAt.int_str i t y u _ _ _ _ h
  ·rcases dc hv with ⟨j, u, rfl, rfl⟩ | ⟨y, u, rfl, rfl⟩
   ·rw [CN] at h; exact SeqAt.EqAt.str_int x t j u _ _ _ _ h
   ·rw [CM] at h; exact wpAny_eqBool_str h
 «strs» := fun k x t v h => by
  rcases dc h with ⟨i, u, rfl, e⟩ | ⟨y, u, rfl, e⟩
  ·exact nomatch e
  ·injection e with e1 _
   subst e1;cases v <;> rfl
inductive V where
 | non | bl (b : Bool) | int (i : Int) | str (x : Str) | byt (b : Array UInt8) | flt (b : UInt64) | ref (a : Addr) | ty (n : String)
 deriving DecidableEq
noncomputable def RelV : V -> Value -> Prop
 | .non, u => u = Value.none
 | .bl b, u => u = Value.bool b
 | .int i, u => ∃ t, u = Value.int i t
 | .str x, u => ∃ t, u = Value.str x t
 | .byt b, u => ∃ t, u = Value.bytes b t
 | .flt b, u => ∃ t, u = Value.float b t
 | .ref a, u => u = Value.ref a
 | .ty n, u => u = Value.type n
noncomputable abbrev Vals : List V -> List Value -> Prop := Paired RelV
theorem Vals.length {xs : List V} {us : List Value} (r : Vals xs us) : xs.length = us.length := Paired.length r
theorem Vals.get : ∀ {xs : List V} {us : List Value} {i : Nat} {x : V}, Vals xs us -> xs[i]? = some x -> ∃ u, us[i]? = some u /\ RelV x u
 | _, _, _, _, .nil, e => by simp at e
 | _, _, 0, _, .cons r _, e => by simp at e; subst e; exact ⟨_, rfl, r⟩
 | _, _, i + 1, x, .cons _ t, e => by
  obtain ⟨u, h1, h2⟩ := Vals.get (i := i) (x := x) t (by simpa using e);exact ⟨u, by simpa using h1, h2⟩
theorem Vals.set {x : V} {u : Value} (r : RelV x u) : ∀ {xs : List V} {us : List Value} (i : Nat), Vals xs us -> Vals (xs.set i x) (us.set i u)
 | _, _, _, .nil => .nil
 | _, _, 0, .cons _ t => .cons r t
 | _, _, i + 1, .cons q t => .cons q (Vals.set r i t)
theorem Vals.append : ∀ {xs ys : List V} {us ws : List Value}, Vals xs us -> Vals ys ws -> Vals (xs ++ ys) (us ++ ws) := by
 intro xs ys us ws h s
 induction h with
 | nil => exact s
 | cons r t ih => exact .cons r ih
theorem Vals.take : ∀ {xs : List V} {us : List Value} (n : Nat), Vals xs us -> Vals (xs.take n) (us.take n) := by
 intro xs us n h
 induction h generalizing n with
 | nil => cases n <;> exact .nil
 | cons r t ih => cases n with
  | zero => exact .nil
  | succ n => exact .cons r (ih n)
theorem Vals.drop : ∀ {xs : List V} {us : List Value} (n : Nat), Vals xs us -> Vals (xs.drop n) (us.drop n) := by
 intro xs us n h
 induction h generalizing n with
 | nil => cases n <;> exact .nil
 | cons r t ih => cases n with
  | zero => exact .cons r t
  | succ n => exact ih n
noncomputable def zD : Option V -> Option Value -> Prop
 | some v, some u => RelV v u
 | none, none => True
 | _, _ => False
noncomputable def KV {κ : Type} : List (κ × V) -> List (κ × Value) -> Prop := Paired fun (p : κ × V) (q : κ × Value) => p.1 = q.1 /\ RelV p.2 q.2
noncomputable def kV : fD -> V
 | .inl i => .int i
 | .inr x => .str x
inductive HO where
  | lst (xs : List V)
  | tup (xs : List V)
  | dK (kvs : List (fD × V)) | dT (kvs : List (List fD × V))
  | set (S : Int -> Bool) (n : Nat)
  | ins (C dx : Addr) (fs : List (Str × V))
  | own (x : Addr)
  | xd (fs : List (Str × V))
  | met (f x : Addr)
  | rng (lo hi : Int)
  | frz (o : Obj) (u : HO)
  | tbl (ps : Array Value)
  | ext (φ : Heap -> Prop)
noncomputable abbrev Hp := Addr -> Option HO
noncomputable def ay (H : Hp) (a : Addr) (o : HO) : Hp := fun b => if b = a then some o else H b
theorem bG {H : Hp} {a : Addr} {o : HO} : ay H a o a = some o := by unfold ay; rw [if_pos rfl]
theorem aw {H : Hp} {a b : Addr} {o : HO} (h : b ≠ a) : ay H a o b = H b := by unfold ay; rw [if_neg h]
theorem cv {H : Hp} {a b : Addr} {o : HO} (h : H a = some o) (h' : H b = none) : a ≠ b := by
 intro e; subst e; rw [h] at h'; cases h'
section
variable (P : Program) (w : World)
noncomputable def ObjOk (H : Hp) (h : Heap) (a : Addr) : HO -> Prop
 | .lst xs => xs.length <= sizeLine /\ ∃ (its : List Value) (n : Nat), Vals xs its /\ h.get? a = some { cls := .type "list", data := .seq its.toArray n }
 | .tup xs => xs.length <= sizeLine /\ ∃ its : List Value, Vals xs its /\ IsTup h a its.toArray
 | .dK kvs => kvs.length <= sizeLine /\ (a == sysModules) = false /\ ∃ vs, KV kvs vs /\ h.DictOf (uW P w) a vs
 | .dT kvs => kvs.length <= sizeLine /\ (a == sysModules) = false /\ ∃ xs : List (List fD × Addr × Value),
   Paired (fun (p : List fD × V) (q : List fD × Addr × Value) => p.1 = q.1 /\ H q.2.1 = some (.tup (p.1.map kV)) /\ RelV p.2 q.2.2) kvs xs /\
   ∃ o es ep, h.get? a = some o /\ o.ExactDict /\ o.data = .dict es ep /\ es.toList = xs.map (entryOfKey (tupleKind (uW P w))) /\ (xs.map (·.1)).Nodup
 | .set S n => h.SetOf (intKind P w) a S n
 | .ins C dx fs => H dx = some (.own a) /\ fs.length <= 1000 /\ dx ≠ a /\ h.get? a = some (instObj C dx) /\
   ∃ mA, h.Ns1 dx mA /\ (∀ f, zD (fs.lookup f) (mA f)) /\ PySem.Within mA (fs.map (·.1))
 | .own _ => ∃ o, h.get? a = some o
 | .xd fs => ∃ mA, h.Ns1 a mA /\ ∀ f, zD (fs.lookup f) (mA f)
 | .rng lo hi => ∃ t u v, h.get? a = some { cls := .type "range", data := .fields #[.int lo t, .int hi u, .int 1 v] }
 | .frz o u => h.get? a = some o /\ ObjOk H h a u
 | .tbl ps => h.get? a = some { cls := .none, data := .fields ps }
 | .met f x => h.get? a = some (methodObj (.ref f) (.ref x))
 | .ext φ => φ h /\ (∃ o, h.get? a = some o) /\ ∀ h1 h2 : Heap, φ h1 -> (∀ o, h1.get? a = some o -> h2.get? a = some o) -> φ h2
noncomputable def HOk (H : Hp) (h : Heap) : Prop := ∀ a o, H a = some o -> ObjOk P w H h a o
end
section
variable {P : Program} {w : World} {H H' : Hp} {h h' : Heap} {a : Addr} {o : HO}
theorem ObjOk.lt (x : ObjOk P w H h a o) : a < h.objs.size := by
 cases o with
 | lst xs => obtain ⟨_, _, _, _, e⟩ := x; exact Heap.lt_size e
 | tup xs => obtain ⟨_, _, _, p⟩ := x; exact p.lt
 | dK kvs => obtain ⟨_, _, _, _, o, _, _, e, _⟩ := x; exact Heap.lt_size e
 | dT kvs => obtain ⟨_, _, _, _, o, _, _, e, _⟩ := x; exact Heap.lt_size e
 | set S n => obtain ⟨o, _, _, _, e, _⟩ := x; exact Heap.lt_size e
 | ins C dx fs => obtain ⟨_, _, _, e, _⟩ := x; exact Heap.lt_size e
 | own y => obtain ⟨_, e⟩ := x; exact Heap.lt_size e
 | xd fs => obtain ⟨_, ⟨_, _, _, e, _⟩, _⟩ := x; exact Heap.lt_size e
 | rng lo hi => obtain ⟨_, _, _, e⟩ := x; exact Heap.lt_size e
 | frz ob u => obtain ⟨e, _⟩ := x; exact Heap.lt_size e
 | tbl ps => exact Heap.lt_size (show h.get? a = some _ from x)
 | met f y => exact Heap.lt_size (show h.get? a = some _ from x)
 | ext φ => obtain ⟨_, ⟨_, e⟩, _⟩ := x; exact Heap.lt_size e
theorem Paired.mapP {α β : Type} {F G : α -> β -> Prop} : ∀ {l₁ : List α} {l₂ : List β}, Paired F l₁ l₂ -> (∀ a b, F a b -> G a b) -> Paired G l₁ l₂ := by
 intro l₁ l₂ h f
 induction h with
 | nil => exact .nil
 | cons r t ih => exact .cons (f _ _ r) ih
theorem ObjOk.stay (x : ObjOk P w H h a o) (k : ∀ b u, (b = a \/ H b = some (.own a)) -> h.get? b = some u -> h'.get? b = some u)
  (ho : ∀ b, H b = some (.own a) -> H' b = some (.own a)) (ht : ∀ b xs, H b = some (.tup xs) -> H' b = some (.tup xs)) : ObjOk P w H' h' a o := by
 induction o with
 | lst xs => obtain ⟨z, its, n, r, e⟩ := x; exact ⟨z, its, n, r, k _ _ (.inl rfl) e⟩
 | tup xs => obtain ⟨z, its, r, ob, e, c⟩ := x; exact ⟨z, its, r, ob, k _ _ (.inl rfl) e, c⟩
 | dK kvs => obtain ⟨z, y, vs, r, ob, es, ep, e, c⟩ := x; exact ⟨z, y, vs, r, ob, es, ep, k _ _ (.inl rfl) e, c⟩
 | dT kvs =>
  obtain ⟨z, y, xs, r, ob, es, ep, e, c⟩ := x;exact ⟨z, y, xs, Paired.mapP r fun p q z => ⟨z.1, ht _ _ z.2.1, z.2.2⟩, ob, es, ep, k _ _ (.inl rfl) e, c⟩
 | set S n => obtain ⟨ob, es, ep, t, e, c⟩ := x; exact ⟨ob, es, ep, t, k _ _ (.inl rfl) e, c⟩
 | ins C dx fs =>
  obtain ⟨d, z, ne, e, mA, ⟨od, es, ep, e2, c⟩, r⟩ := x;exact ⟨ho _ d, z, ne, k _ _ (.inl rfl) e, mA, ⟨od, es, ep, k _ _ (.inr d) e2, c⟩, r⟩
 | own y => obtain ⟨ob, e⟩ := x; exact ⟨ob, k _ _ (.inl rfl) e⟩
 | xd fs => obtain ⟨mA, ⟨od, es, ep, e, c⟩, r⟩ := x; exact ⟨mA, ⟨od, es, ep, k _ _ (.inl rfl) e, c⟩, r⟩
 | rng lo hi => obtain ⟨t, u, v, e⟩ := x; exact ⟨t, u, v, k _ _ (.inl rfl) e⟩
 | frz ob u ih => obtain ⟨e, q⟩ := x; exact ⟨k _ _ (.inl rfl) e, ih q⟩
 | tbl ps =>
  have e : h.get? a = some { cls := .none, data := .fields ps } := x;show h'.get? a = some { cls := .none, data := .fields ps };exact k a _ (.inl rfl) e
 | met f y =>
  have e : h.get? a = some (methodObj (.ref f) (.ref y)) := x;show h'.get? a = some (methodObj (.ref f) (.ref y));exact k a _ (.inl rfl) e
 | ext φ => obtain ⟨p, ⟨o, e⟩, st⟩ := x; exact ⟨st _ _ p fun o q => k _ _ (.inl rfl) q, ⟨o, k _ _ (.inl rfl) e⟩, st⟩
theorem HOk.lt (x : HOk P w H h) (e : H a = some o) : a < h.objs.size := (x a o e).lt
theorem HOk.fresh (x : HOk P w H h) (e : h.objs.size <= a) : H a = none := by
 cases q : H a with
 | none => rfl
 | some u => exact absurd (Nat.lt_of_lt_of_le (x.lt q) e) (Nat.lt_irrefl _)
theorem HOk.kept (x : HOk P w H h) (k : ∀ b u, h.get? b = some u -> h'.get? b = some u) : HOk P w H h' := fun a o e =>
 (x a o e).stay (fun b u _ q => k b u q) (fun _ q => q) fun _ _ q => q
theorem HOk.laid (x : HOk P w H h) (k : ∀ b u, h.get? b = some u -> h'.get? b = some u) (hp : h.objs.size <= a) (new : ObjOk P w (ay H a o) h' a o) : HOk P w (ay H a o) h' := fun b u e => by
 have hn := x.fresh hp;by_cases hb : b = a
 ·subst hb; rw [bG] at e; cases e; exact new
 ·rw [aw hb] at e
  exact (x b u e).stay (fun c v _ q => k c v q) (fun c q => by rw [aw (cv q hn)]; exact q) fun c xs q => by rw [aw (cv q hn)]; exact q
end
noncomputable def Rd (H : Hp) (a : Addr) (u : HO) : Prop := H a = some u \/ ∃ o, H a = some (.frz o u)
theorem Rd.ok {P : Program} {w : World} {H : Hp} {h : Heap} {a : Addr} {u : HO} (r : Rd H a u) (x : HOk P w H h) : ObjOk P w H h a u := by
 rcases r with r | ⟨o, r⟩
 ·exact x a u r
 ·obtain ⟨_, q⟩ := x a _ r
  exact q
noncomputable def Ai : Option HO -> Prop
 | some (.lst _) => True
 | some (.dK _) => True
 | some (.dT _) => True
 | some (.set _ _) => True
 | some (.ins _ _ _) => True
 | some (.ext _) => True
 | _ => False
section
variable {P : Program} {w : World} {H : Hp} {h h' : Heap} {x e : Addr} {o' : HO}
theorem HOk.write (ok : HOk P w H h) (mu : Ai (H x)) (he : e = x \/ H e = some (.own x)) (k : ∀ b u, b ≠ e -> h.get? b = some u -> h'.get? b = some u) (heo : ∃ u, h'.get? e = some u)
  (new : ObjOk P w (ay H x o') h' x o') : HOk P w (ay H x o') h' := fun b u q => by
 have nown : ∀ c y, H c = some (.own y) -> c ≠ x := fun c y r z => by subst z; rw [r] at mu; exact mu
 have ntup : ∀ c xs, H c = some (.tup xs) -> c ≠ x := fun c xs r z => by subst z; rw [r] at mu; exact mu
 by_cases hb : b = x
 ·subst hb; rw [bG] at q; cases q; exact new
 ·rw [aw hb] at q
  by_cases hbe : b = e
  ·have q' : H b = some (.own x) := by
    rcases he with z | z
    ·exact absurd (hbe.trans z) hb
    ·rw [hbe]; exact z
   rw [q] at q'; cases q';obtain ⟨v, hv⟩ := heo;exact ⟨v, by rw [hbe]; exact hv⟩
  ·refine (ok b u q).stay (fun c v hc r => k c v ?_ r) (fun c r => by rw [aw (nown c b r)]; exact r) fun c xs r => by rw [aw (ntup c xs r)]; exact r
   rcases hc with rfl | hc
   ·exact hbe
   ·rintro rfl
    rcases he with z | z
    ·exact nown c b hc z
    ·rw [hc] at z; cases z; exact hb rfl
end
structure Un (fs ex : List Addr) (H H' : Hp) (h h' : Heap) : Prop where
 keep : ∀ b o, h.get? b = some o -> H b = none -> b ∉ fs -> b ∉ ex -> h'.get? b = some o
 slot : ∀ b o, h.get? b = some o -> H b = none -> b ∈ fs -> b ∉ ex -> ∃ sl, h'.get? b = some { o with slots := sl }
 free : ∀ b o, h.get? b = some o -> H b = none -> b ∉ ex -> H' b = none
 there : ∀ b o, h.get? b = some o -> b ∉ ex -> ∃ o', h'.get? b = some o'
 tups : ∀ b xs, H b = some (.tup xs) -> H' b = some (.tup xs)
 frzs : ∀ b o u, H b = some (.frz o u) -> H' b = some (.frz o u)
 tbls : ∀ b ps, H b = some (.tbl ps) -> ∃ more, H' b = some (.tbl (ps ++ more))
section
variable {fs fs' ex ex' : List Addr} {H H1 H2 : Hp} {h h1 h2 h' : Heap} {a x e : Addr} {o : HO}
theorem Un.any (u : Un fs ex H H1 h h1) {b : Addr} {ob : Obj} (q : h.get? b = some ob) (n : H b = none) (hx : b ∉ ex) : ∃ sl, h1.get? b = some { ob with slots := sl } := by
 by_cases hb : b ∈ fs
 ·exact u.slot b ob q n hb hx
 ·exact ⟨ob.slots, u.keep b ob q n hb hx⟩
theorem Un.kept (k : ∀ b u, h.get? b = some u -> h'.get? b = some u) : Un fs ex H H h h' :=
 ⟨fun b ob q _ _ _ => k b ob q, fun b ob q _ _ _ => ⟨ob.slots, k b ob q⟩, fun _ _ _ n _ => n, fun b ob q _ => ⟨ob, k b ob q⟩, fun _ _ q => q, fun _ _ _ q => q, fun _ ps q => ⟨#[], by rw [q]; simp⟩⟩
theorem Un.refl : Un fs ex H H h h := Un.kept fun _ _ q => q
theorem Un.laid (k : ∀ b u, h.get? b = some u -> h'.get? b = some u) (hp : h.objs.size <= a) (hn : H a = none) : Un fs ex H (ay H a o) h h' where
 keep := fun b u q _ _ _ => k b u q
 slot := fun b u q _ _ _ => ⟨u.slots, k b u q⟩
 free := fun b u q n _ => by rw [aw (Nat.ne_of_lt (Nat.lt_of_lt_of_le (Heap.lt_size q) hp))]; exact n
 there := fun b u q _ => ⟨u, k b u q⟩
 tups := fun b xs q => by rw [aw (cv q hn)]; exact q
 frzs := fun b u xs q => by rw [aw (cv q hn)]; exact q
 tbls := fun b ps q => ⟨#[], by rw [aw (cv q hn), q]; simp⟩
theorem Un.write (mu : Ai (H x)) (he : e = x \/ H e = some (.own x)) (k : ∀ b u, b ≠ e -> h.get? b = some u -> h'.get? b = some u) (heo : ∃ u, h'.get? e = some u) : Un fs ex H (ay H x o) h h' := by
 have hx : ∀ b, H b = none -> b ≠ x := fun b n z => by subst z; rw [n] at mu; exact mu
 have hb : ∀ b, H b = none -> b ≠ e := fun b n z => by
  subst z;rcases he with r | r
  ·exact hx b n r
  ·rw [n] at r; cases r
 have hm : ∀ b u, H b = some u -> ¬ Ai (some u) -> b ≠ x := fun b u q nm z => by subst z; rw [q] at mu; exact nm mu
 refine ⟨fun b u q n _ _ => k b u (hb b n) q, fun b u q n _ _ => ⟨u.slots, k b u (hb b n) q⟩, fun b u q n _ => by rw [aw (hx b n)]; exact n, fun b u q _ => ?_,
  fun b xs q => by rw [aw (hm b _ q fun z => z)]; exact q, fun b u xs q => by rw [aw (hm b _ q fun z => z)]; exact q, fun b ps q => ⟨#[], by rw [aw (hm b _ q fun z => z), q]; simp⟩⟩
 by_cases hbe : b = e
 ·subst hbe; exact heo
 ·exact ⟨u, k b u hbe q⟩
end
noncomputable def zI (h : Heap) (H : Hp) : List Addr := (List.range h.objs.size).filter fun a => (H a).isSome
noncomputable def kN (h : Heap) (H : Hp) : Heap := hideAll h (zI h H)
theorem xU (h : Heap) (H : Hp) : (kN h H).objs.size = h.objs.size := hideAll_size _ _
theorem zk {h : Heap} {H : Hp} {b : Addr} {o : Obj} (e : h.get? b = some o) (n : H b = none) : (kN h H).get? b = some o :=
 hideAll_get _ e fun hm => by
  have q : (H b).isSome = true := (List.mem_filter.mp hm).2;rw [n] at q; simp at q
theorem Bb {h : Heap} {H : Hp} {b : Addr} {o : Obj} (e : (kN h H).get? b = some o) : h.get? b = some o /\ H b = none := by
 have e' : h.get? b = some o := of_hideAll (zI h H) e;refine ⟨e', ?_⟩;cases q : H b with
 | none => rfl
 | some x =>
  have hm : b ∈ zI h H := List.mem_filter.mpr ⟨List.mem_range.mpr (Heap.lt_size e'), by simp [q]⟩;have z : (kN h H).get? b = none := hideAll_none (zI h H) hm;rw [z] at e; cases e
noncomputable def BH (g h : Heap) (L : Addr) : List (Addr × Obj) := (List.range h.objs.size).filterMap fun a => if a = L \/ (g.get? a).isSome = true then none else (h.get? a).map fun o => (a, o)
noncomputable def cO (g h : Heap) (L d : Addr) : List (Addr × Obj) := (BH g h L).filter fun p => decide (p.1 ≠ d)
structure Mod (K : PySem.W.Frag) (mg : Str -> Option Value) (base : Heap) : Prop where
 kin : K.In base
 glob : base.Ns mainGlobals mg
 blt : ∃ mb, base.Ns builtinsNs mb /\ ∀ x : Str, x ≠ "__name__" -> mb x = bootBuiltins x
 nolimit : base.NoLimit
structure Cx where
 prog : Program
 w : World
 K : PySem.W.Frag
 mg : Str -> Option Value
 base : Heap
 A : Around
 N : List Str
 s₀ : Shared
 H₀ : Hp
 env : Env
 outer : List Env
 stack : List Env
 ex : List Addr
 fn : Str -> Bool
 calm : Bool
 pn : List (Addr × Obj)
 xe : Value -> Shared -> Prop
noncomputable def ki (l : List Env) : List Addr := l.filterMap (·.frame)
noncomputable abbrev Cx.fs (X : Cx) : List Addr := ki X.outer
noncomputable def m7 (sc : Scope) (x : Str) : Prop := sc.names.lookup x = some .local \/ sc.names.lookup x = some .cell \/ sc.names.lookup x = some .free
noncomputable def o6 (sc : Scope) (x : Str) : Prop := sc.names.lookup x = some .local \/ sc.names.lookup x = some .cell
noncomputable def FK (env : Env) (h : Heap) (m : Str -> Option Value) (x : Str) (u : Value) : Prop :=
 (env.kindOf x = some .local /\ m x = some u) \/ ((env.kindOf x = some .cell \/ env.kindOf x = some .free) /\ ∃ c, env.cells.lookup x = some c /\ h.IsCell c (some u))
structure Cx.Ok (X : Cx) : Prop where
 mod : Mod X.K X.mg X.base
 kind : X.env.scope.kind = .function
 glob : X.env.globals = mainGlobals
 blt : X.env.builtins = builtinsNs
 above : X.s₀.heap.objs.size <= X.env.locals
 inj : ∀ x y c, X.env.cells.lookup x = some c -> X.env.cells.lookup y = some c -> x = y
 has : ∀ x, (X.env.kindOf x = some .cell \/ X.env.kindOf x = some .free) -> ∃ c, X.env.cells.lookup x = some c
 cab : ∀ x c, X.fn x = true -> X.env.cells.lookup x = some c -> X.s₀.heap.objs.size <= c
 hd : X.calm = true -> X.A.handled = none
 frames : X.A.frames = some X.stack
 stk : X.stack = X.outer \/ (X.stack = X.env :: X.outer /\ X.env.frame = some X.env.locals)
 exf : ∀ b ∈ X.ex, b ≠ X.env.locals /\ ∀ x c, X.env.cells.lookup x = some c -> c ≠ b
 bs : ∀ b o, X.base.get? b = some o -> X.s₀.heap.get? b = some o /\ X.H₀ b = none
 bsz : X.base.objs.size <= X.s₀.heap.objs.size
 noex : ∀ b o, X.base.get? b = some o -> b ∉ X.ex
 exfs : ∀ b ∈ X.ex, b ∉ X.fs
 funs : X.s₀.heap.FunFrames X.base X.outer
 frf : ∀ b ∈ X.fs, X.H₀ b = none
structure Inv (X : Cx) (aa : List (Addr × Obj)) (σ : List (Option V)) (H : Hp) (s : Shared) : Prop where
 ok : X.Ok
 os : s.os = X.s₀.os
 bare : AllBare s.gens
 base : Un X.fs X.ex X.H₀ H X.s₀.heap s.heap
 loc : ∃ m, s.heap.Ns X.env.locals m /\ ∀ (i : Nat) (x : Str) (v : V), X.N[i]? = some x -> σ[i]? = some (some v) -> m7 X.env.scope x -> ∃ u, RelV v u /\ FK X.env s.heap m x u
 cell : ∀ x c, X.env.cells.lookup x = some c -> ∃ v, s.heap.IsCell c v
 free : H X.env.locals = none
 freeC : ∀ x c, X.env.cells.lookup x = some c -> H c = none
 pin : ∀ p ∈ X.pn ++ aa, s.heap.get? p.1 = some p.2 /\ H p.1 = none /\ p.1 ≠ X.env.locals /\ p.1 ∉ X.fs /\ ∀ v, p.2.data ≠ .cell v
 hok : HOk X.prog X.w H s.heap
 len : σ.length = X.N.length
section
variable {X : Cx} {aa : List (Addr × Obj)} {σ : List (Option V)} {H H' : Hp} {s : Shared} {h' : Heap}
theorem Cx.Ok.nofr (ok : X.Ok) {b : Addr} {o : Obj} (e : X.base.get? b = some o) : b ∉ X.fs := fun hb => by
 have := (ok.funs.mem hb).1
 rw [e] at this; cases this
theorem Inv.bs (I : Inv X aa σ H s) : ∀ b o, X.base.get? b = some o -> s.heap.get? b = some o /\ H b = none := fun b o e =>
 ⟨I.base.keep b o (I.ok.bs b o e).1 (I.ok.bs b o e).2 (I.ok.nofr e) (I.ok.noex b o e), I.base.free b o (I.ok.bs b o e).1 (I.ok.bs b o e).2 (I.ok.noex b o e)⟩
theorem Inv.bk (I : Inv X aa σ H s) : ∀ b o, X.base.get? b = some o -> s.heap.get? b = some o := fun b o e => (I.bs b o e).1
theorem Inv.mod (I : Inv X aa σ H s) : Mod X.K X.mg X.base := I.ok.mod
theorem Inv.kIn (I : Inv X aa σ H s) : X.K.In s.heap := I.ok.mod.kin.keeps I.bk
theorem Inv.lt (I : Inv X aa σ H s) : X.env.locals < s.heap.objs.size := let ⟨_, hn, _⟩ := I.loc; hn.lt
theorem Inv.sz (I : Inv X aa σ H s) : X.s₀.heap.objs.size <= s.heap.objs.size := Nat.le_trans I.ok.above (Nat.le_of_lt I.lt)
theorem Inv.nofs (I : Inv X aa σ H s) {a : Addr} (h : s.heap.objs.size <= a) : a ∉ X.fs := fun hb => by
 obtain ⟨_, o, ho, _⟩ := I.ok.funs.mem hb;exact absurd (Nat.lt_of_lt_of_le (Heap.lt_size ho) (Nat.le_trans I.sz h)) (Nat.lt_irrefl _)
theorem Inv.cne (I : Inv X aa σ H s) : ∀ x c, X.env.cells.lookup x = some c -> c ≠ X.env.locals := fun x c e z => by
 obtain ⟨v, o, ho, hd⟩ := I.cell x c e;obtain ⟨m, ⟨o', es, ep, ho', hd', _⟩, _⟩ := I.loc;rw [z, ho'] at ho; cases ho; rw [hd'] at hd; cases hd
theorem Inv.funs (I : Inv X aa σ H s) : s.heap.FunFrames X.base X.outer := by
 have all : ∀ (l : List Env), (∀ b ∈ ki l, b ∈ X.fs) -> X.s₀.heap.FunFrames X.base l -> s.heap.FunFrames X.base l := by
  intro l
  induction l with
  | nil => intro _ _; trivial
  | cons env r ih =>
   intro hs hl;obtain ⟨hk, ⟨L, o, hf, hn, ho, hd⟩, hr⟩ := hl;have hL : L ∈ X.fs := hs L (by unfold ki; rw [List.filterMap_cons, hf]; exact List.mem_cons_self);obtain ⟨sl, e⟩ := I.base.slot L o ho (I.ok.frf L hL) hL fun z => I.ok.exfs L z hL
   exact ⟨hk, ⟨L, _, hf, hn, e, hd⟩, ih (fun b hb => hs b (by unfold ki; rw [List.filterMap_cons, hf]; exact List.mem_cons_of_mem _ hb)) hr⟩
 exact all X.outer (fun _ hb => hb) I.ok.funs
theorem Inv.stack (I : Inv X aa σ H s) : s.heap.FunFrames X.base X.stack := by
 rcases I.ok.stk with e | ⟨e, hf⟩
 ·rw [e]; exact I.funs
 ·rw [e]
  obtain ⟨m, hn, _⟩ := I.loc;refine .cons (by rw [I.ok.kind]; decide) hf hn ?_ I.funs;exact Heap.get?_none_of_le (Nat.le_trans I.ok.bsz I.ok.above)
theorem Inv.stkSub (I : Inv X aa σ H s) : ∀ b ∈ ki X.stack, b ∈ X.env.locals :: X.fs := fun b hb => by
 rcases I.ok.stk with e | ⟨e, hf⟩
 ·rw [e] at hb; exact List.mem_cons_of_mem _ hb
 ·rw [e] at hb
  unfold ki at hb;rw [List.filterMap_cons, hf] at hb;exact hb
theorem Inv.stkFree (I : Inv X aa σ H s) : ∀ b ∈ ki X.stack, H b = none := fun b hb => by
 rcases List.mem_cons.mp (I.stkSub b hb) with e | hb
 ·rw [e]; exact I.free
 ·obtain ⟨_, o, ho, _⟩ := I.ok.funs.mem hb
  exact I.base.free b o ho (I.ok.frf b hb) fun z => I.ok.exfs b z hb
theorem Inv.step {g' : Array GenState} {t' : Nat} {d' : Drawn} {ch : List Addr} (I : Inv X aa σ H s)
  (hch : ∀ b ∈ ch, (b ∈ X.ex \/ X.s₀.heap.objs.size <= b) /\ b ≠ X.env.locals /\ (∀ x c, X.env.cells.lookup x = some c -> c ≠ b) /\ ∀ p ∈ X.pn ++ aa, p.1 ≠ b)
  (keep : ∀ b o, b ≠ X.env.locals -> b ∉ X.fs -> b ∉ ch -> s.heap.get? b = some o -> H b = none -> h'.get? b = some o)
  (slot : ∀ b o, b ≠ X.env.locals -> b ∈ X.fs -> b ∉ ch -> s.heap.get? b = some o -> H b = none -> ∃ sl, h'.get? b = some { o with slots := sl }) (free : ∀ b o, b ∉ ch -> s.heap.get? b = some o -> H b = none -> H' b = none)
  (there : ∀ b o, b ∉ ch -> s.heap.get? b = some o -> ∃ o', h'.get? b = some o')
  (tups : ∀ b xs, H b = some (.tup xs) -> H' b = some (.tup xs)) (frzs : ∀ b o u, H b = some (.frz o u) -> H' b = some (.frz o u)) (tbls : ∀ b ps, H b = some (.tbl ps) -> ∃ more, H' b = some (.tbl (ps ++ more)))
  (ns : ∀ m, s.heap.Ns X.env.locals m -> h'.Ns X.env.locals m) (hok : HOk X.prog X.w H' h') (hg : AllBare g') :
  Inv X aa σ H' { s with heap := h', gens := g', drawn := d', toks := t' } := by
 have neL : ∀ b o, X.s₀.heap.get? b = some o -> b ≠ X.env.locals := fun b o e => Nat.ne_of_lt (Nat.lt_of_lt_of_le (Heap.lt_size e) I.ok.above)
 have neC : ∀ b o, X.s₀.heap.get? b = some o -> b ∉ X.ex -> b ∉ ch := fun b o e hx hb => by
  rcases (hch b hb).1 with z | z
  ·exact hx z
  ·exact absurd (Nat.lt_of_lt_of_le (Heap.lt_size e) z) (Nat.lt_irrefl _)
 have cellK : ∀ x c, X.env.cells.lookup x = some c -> ∀ v, s.heap.IsCell c v -> h'.IsCell c v := fun x c e v hq0 => by
  obtain ⟨o, ho, hd⟩ := hq0;have nch : c ∉ ch := fun z => (hch c z).2.2.1 x c e rfl
  by_cases hc : c ∈ X.fs
  ·obtain ⟨sl, q⟩ := slot c o (I.cne x c e) hc nch ho (I.freeC x c e)
   exact ⟨_, q, hd⟩
  ·exact ⟨o, keep c o (I.cne x c e) hc nch ho (I.freeC x c e), hd⟩
 refine ⟨I.ok, I.os, hg, ⟨fun b o e n hb hx => ?_, fun b o e n hb hx => ?_, fun b o e n hx => ?_, fun b o e hx => ?_, fun b xs e => tups b xs (I.base.tups b xs e), fun b o xs e => frzs b o xs (I.base.frzs b o xs e), fun b ps e => ?_⟩, ?_, fun x c e => ?_, ?_, fun x c e => ?_, fun p hp => ?_, hok, I.len⟩
 ·exact keep b o (neL b o e) hb (neC b o e hx) (I.base.keep b o e n hb hx) (I.base.free b o e n hx)
 ·obtain ⟨sl, e1⟩ := I.base.slot b o e n hb hx
  obtain ⟨sl', e2⟩ := slot b _ (neL b o e) hb (neC b o e hx) e1 (I.base.free b o e n hx);exact ⟨sl', e2⟩
 ·obtain ⟨o', e1⟩ := I.base.there b o e hx
  exact free b o' (neC b o e hx) e1 (I.base.free b o e n hx)
 ·obtain ⟨o', e1⟩ := I.base.there b o e hx
  exact there b o' (neC b o e hx) e1
 ·obtain ⟨m1, e1⟩ := I.base.tbls b ps e
  obtain ⟨m2, e2⟩ := tbls b _ e1;exact ⟨m1 ++ m2, by rw [e2, Array.append_assoc]⟩
 ·obtain ⟨m, hn, hl⟩ := I.loc
  refine ⟨m, ns m hn, fun i x v e1 e2 e3 => ?_⟩;obtain ⟨u, r, l⟩ := hl i x v e1 e2 e3;refine ⟨u, r, ?_⟩;rcases l with l | ⟨k, c, e, z⟩
  ·exact .inl l
  ·exact .inr ⟨k, c, e, cellK x c e _ z⟩
 ·obtain ⟨v, z⟩ := I.cell x c e
  exact ⟨v, cellK x c e v z⟩
 ·obtain ⟨m, ⟨o, _, _, ho, _⟩, _⟩ := I.loc
  exact free _ o (fun z => (hch _ z).2.1 rfl) ho I.free
 ·obtain ⟨v, o, ho, hd⟩ := I.cell x c e
  exact free c o (fun z => (hch c z).2.2.1 x c e rfl) ho (I.freeC x c e)
 ·obtain ⟨e, n, ne, nf, d⟩ := I.pin p hp
  have nch : p.1 ∉ ch := fun z => (hch p.1 z).2.2.2 p hp rfl
  exact ⟨keep p.1 p.2 ne nf nch e n, free p.1 p.2 nch e n, ne, nf, d⟩
theorem Inv.un {t' : Nat} (I : Inv X aa σ H s) (u : Un X.fs [] H H' s.heap h') (hok : HOk X.prog X.w H' h') : Inv X aa σ H' { s with heap := h', toks := t' } := by
 obtain ⟨m, ⟨o, es, ep, ho, r⟩, _⟩ := id I.loc;obtain ⟨sl, hL⟩ := u.any ho I.free (by simp);exact I.step (g' := s.gens) (d' := s.drawn) (ch := []) (fun _ z => nomatch z) (fun b o _ hb _ e n => u.keep b o e n hb (by simp)) (fun b o _ hb _ e n => u.slot b o e n hb (by simp)) (fun b o _ e n => u.free b o e n (by simp)) (fun b o _ e => u.there b o e (by simp)) u.tups u.frzs u.tbls (fun m' hm => by
  obtain ⟨o', es', ep', ho', r'⟩ := hm;rw [ho] at ho'; cases ho';exact ⟨_, es', ep', hL, r'⟩) hok I.bare
theorem Inv.call {g' : Array GenState} {t' : Nat} {d' : Drawn} {ch : List Addr} (I : Inv X aa σ H s) (u : Un (ki X.stack) ch H H' s.heap h') (hok : HOk X.prog X.w H' h') (hg : AllBare g')
  (hch : ∀ b ∈ ch, (b ∈ X.ex \/ X.s₀.heap.objs.size <= b) /\ b ≠ X.env.locals /\ (∀ x c, X.env.cells.lookup x = some c -> c ≠ b) /\ ∀ p ∈ X.pn ++ aa, p.1 ≠ b) :
  Inv X aa σ H' { s with heap := h', gens := g', drawn := d', toks := t' } := by
 obtain ⟨m, ⟨o, es, ep, ho, r⟩, _⟩ := id I.loc;obtain ⟨sl, hL⟩ := u.any ho I.free fun z => (hch _ z).2.1 rfl
 exact I.step (ch := ch) hch (fun b o hL hb hc e n => u.keep b o e n (fun z => (List.mem_cons.mp (I.stkSub b z)).elim hL hb) hc) (fun b o _ _ hc e n => u.any e n hc) (fun b o hc e n => u.free b o e n hc) (fun b o hc e => u.there b o e hc) u.tups u.frzs u.tbls (fun m' hm => by
  obtain ⟨o', es', ep', ho', r'⟩ := hm;rw [ho] at ho'; cases ho';exact ⟨_, es', ep', hL, r'⟩) hok hg
theorem Inv.turned {t' : Nat} {it : Addr} (I : Inv X aa σ H s) (k : ∀ b o, b ≠ it -> s.heap.get? b = some o -> h'.get? b = some o) (hn : H it = none) (hL : it ≠ X.env.locals)
  (h1 : it ∈ X.ex \/ X.s₀.heap.objs.size <= it) (h2 : ∀ x c, X.env.cells.lookup x = some c -> c ≠ it) (h3 : ∀ p ∈ X.pn ++ aa, p.1 ≠ it) : Inv X aa σ H { s with heap := h', toks := t' } := by
 have nit : ∀ b u, H b = some u -> b ≠ it := fun b u e z => by rw [z, hn] at e; cases e
 refine I.step (g' := s.gens) (d' := s.drawn) (ch := [it]) (fun b hb => ?_) (fun b o _ _ hc e _ => k b o (fun z => hc (by simp [z])) e) (fun b o _ _ hc e _ => ⟨o.slots, k b o (fun z => hc (by simp [z])) e⟩) (fun _ _ _ _ n => n)
  (fun b o hc e => ⟨o, k b o (fun z => hc (by simp [z])) e⟩) (fun _ _ e => e) (fun _ _ _ e => e) (fun b ps e => ⟨#[], by rw [e]; simp⟩) (fun m hm => ?_) (fun b u e => ?_) I.bare
 ·have e : b = it := by simpa using hb
  subst e;exact ⟨h1, hL, h2, h3⟩
 ·obtain ⟨o, es, ep, ho, r⟩ := hm
  exact ⟨o, es, ep, k _ o (Ne.symm hL) ho, r⟩
 ·refine (I.hok b u e).stay (fun c v hc q => k c v ?_ q) (fun _ q => q) fun _ _ q => q
  rcases hc with z | z
  ·rw [z]; exact nit b u e
  ·exact nit c _ z
theorem Inv.tok (I : Inv X aa σ H s) (t : Nat) : Inv X aa σ H { s with toks := t } := I.un (h' := s.heap) (t' := t) Un.refl I.hok
theorem Inv.kept {t' : Nat} (I : Inv X aa σ H s) (k : ∀ b u, s.heap.get? b = some u -> h'.get? b = some u) : Inv X aa σ H { s with heap := h', toks := t' } := I.un (Un.kept k) (I.hok.kept k)
theorem Inv.laid {a : Addr} {o : HO} {t' : Nat} (I : Inv X aa σ H s) (k : ∀ b u, s.heap.get? b = some u -> h'.get? b = some u) (hp : s.heap.objs.size <= a) (new : ObjOk X.prog X.w (ay H a o) h' a o) :
  Inv X aa σ (ay H a o) { s with heap := h', toks := t' } := I.un (Un.laid k hp (I.hok.fresh hp)) (I.hok.laid k hp new)
theorem Inv.write {x e : Addr} {o : HO} {t' : Nat} (I : Inv X aa σ H s) (mu : Ai (H x)) (he : e = x \/ H e = some (.own x)) (k : ∀ b u, b ≠ e -> s.heap.get? b = some u -> h'.get? b = some u) (heo : ∃ u, h'.get? e = some u)
  (new : ObjOk X.prog X.w (ay H x o) h' x o) : Inv X aa σ (ay H x o) { s with heap := h', toks := t' } := I.un (Un.write mu he k heo) (I.hok.write mu he k heo new)
theorem Inv.pins_of {pins' : List (Addr × Obj)} (I : Inv X aa σ H s) (h : ∀ p ∈ pins', s.heap.get? p.1 = some p.2 /\ H p.1 = none /\ p.1 ≠ X.env.locals /\ p.1 ∉ X.fs /\ ∀ v, p.2.data ≠ .cell v) : Inv X pins' σ H s :=
 ⟨I.ok, I.os, I.bare, I.base, I.loc, I.cell, I.free, I.freeC, fun p hp => (List.mem_append.mp hp).elim (fun z => I.pin p (List.mem_append_left _ z)) (h p), I.hok, I.len⟩
theorem sN {N : List Str} (hN : N.Nodup) {i j : Nat} {x : Str} (a : N[i]? = some x) (b : N[j]? = some x) : i = j := by
 obtain ⟨h1, e1⟩ := List.getElem?_eq_some_iff.mp a;obtain ⟨h2, e2⟩ := List.getElem?_eq_some_iff.mp b;exact (List.getElem_inj hN).mp (e1.trans e2.symm)
theorem qa {M : Model} {A : Around} {E : Value -> Shared -> Prop} {i : Nat} {x : Str} {v : V} {u : Value} {Q : Unit -> Shared -> Prop} (I : Inv X aa σ H s) (hN : X.N.Nodup) (hi : X.N[i]? = some x) (hx : o6 X.env.scope x) (r : RelV v u)
  (h : ∀ s', Inv X aa (σ.set i (some v)) H s' -> (∃ a, Heap.SameBut a s.heap s'.heap /\ (a = X.env.locals \/ X.env.cells.lookup x = some a)) -> Q () s') (hf : autoParam (X.fn x = true \/ X.env.scope.names.lookup x = some .local) o7._auto_1) : wpAny M A (storeName X.env x u) Q E s := by
 obtain ⟨m, hn, hl⟩ := id I.loc;have hcls : (X.env.scope.kind == .class || (X.env.scope.kind == .module && X.env.locals != X.env.globals)) = false := by rw [I.ok.kind]; rfl
 have hiσ : i < σ.length := by rw [I.len]; exact (List.getElem?_eq_some_iff.mp hi).1
 have cne := I.cne;have tracked : ∀ {a : Addr} {h' : Heap}, (∃ o, s.heap.get? a = some o /\ H a = none) -> Heap.SameBut a s.heap h' -> HOk X.prog X.w H h' := fun {a h'} ha hs b ob e => by
  obtain ⟨_, _, hfree⟩ := ha;refine (I.hok b ob e).stay (fun c w' hc q => (hs.2 c ?_).trans q) (fun _ q => q) fun _ _ q => q
  rintro rfl;rcases hc with rfl | hc
  ·rw [hfree] at e; cases e
  ·rw [hfree] at hc; cases hc
 rcases hx with hk | hk
 ·refine wpAny_storeName_local hk hn (fun h' hn' hs => ?_) hcls
  obtain ⟨oL, _, _, hoL, _⟩ := id hn;refine h _ ⟨I.ok, I.os, I.bare, ⟨fun b o e n hb hx => ?_, fun b o e n hb hx => ?_, I.base.free, fun b o e hx => ?_, I.base.tups, I.base.frzs, I.base.tbls⟩, ⟨_, hn', fun j y v' e1 e2 e3 => ?_⟩, fun y c e => ?_, I.free, I.freeC, fun p hp => ?_, tracked ⟨oL, hoL, I.free⟩ hs, by simpa using I.len⟩ ⟨_, hs, .inl rfl⟩
  ·exact (hs.2 b (Nat.ne_of_lt (Nat.lt_of_lt_of_le (Heap.lt_size e) I.ok.above))).trans (I.base.keep b o e n hb hx)
  ·obtain ⟨sl, e1⟩ := I.base.slot b o e n hb hx
   exact ⟨sl, (hs.2 b (Nat.ne_of_lt (Nat.lt_of_lt_of_le (Heap.lt_size e) I.ok.above))).trans e1⟩
  ·obtain ⟨o', e1⟩ := I.base.there b o e hx
   exact ⟨o', (hs.2 b (Nat.ne_of_lt (Nat.lt_of_lt_of_le (Heap.lt_size e) I.ok.above))).trans e1⟩
  ·by_cases hj : j = i
   ·subst hj
    rw [hi] at e1; cases e1;rw [List.getElem?_set_self hiσ] at e2;cases e2;exact ⟨u, r, .inl ⟨hk, by simp⟩⟩
   ·rw [List.getElem?_set_ne (Ne.symm hj)] at e2
    obtain ⟨u', r', q⟩ := hl j y v' e1 e2 e3;refine ⟨u', r', ?_⟩;rcases q with ⟨k, e⟩ | ⟨k, c, e, z⟩
    ·refine .inl ⟨k, ?_⟩
     have : y ≠ x := fun e => hj (sN hN e1 (e ▸ hi))
     simp [this, e]
    ·exact .inr ⟨k, c, e, z.sameBut hs (cne y c e)⟩
  ·obtain ⟨w', z⟩ := I.cell y c e
   exact ⟨w', z.sameBut hs (cne y c e)⟩
  ·obtain ⟨e, n, ne, nf, d⟩ := I.pin p hp
   exact ⟨(hs.2 p.1 ne).trans e, n, ne, nf, d⟩
 ·have hfn : X.fn x = true := by
   rcases hf with z | z
   ·exact z
   ·rw [z] at hk; cases hk
  obtain ⟨c, hc⟩ := I.ok.has x (.inl hk);obtain ⟨w', z⟩ := I.cell x c hc;refine wpAny_storeName_cell I.ok.kind hk hc z (fun h' hc' hs => ?_);obtain ⟨oc, hoc, hocd⟩ := id z;refine h { s with heap := h' } ⟨I.ok, I.os, I.bare, ⟨fun b o e n hb hx => ?_, fun b o e n hb hx => ?_, I.base.free, fun b o e hx => ?_, I.base.tups, I.base.frzs, I.base.tbls⟩, ⟨m, hn.sameBut hs (Ne.symm (cne x c hc)), fun j y v' e1 e2 e3 => ?_⟩, fun y c' e => ?_, I.free, I.freeC, fun p hp => ?_, tracked ⟨oc, hoc, I.freeC x c hc⟩ hs, by simpa using I.len⟩ ⟨c, hs, .inr hc⟩
  ·exact (hs.2 b (Nat.ne_of_lt (Nat.lt_of_lt_of_le (Heap.lt_size e) (I.ok.cab x c hfn hc)))).trans (I.base.keep b o e n hb hx)
  ·obtain ⟨sl, e1⟩ := I.base.slot b o e n hb hx
   exact ⟨sl, (hs.2 b (Nat.ne_of_lt (Nat.lt_of_lt_of_le (Heap.lt_size e) (I.ok.cab x c hfn hc)))).trans e1⟩
  ·obtain ⟨o', e1⟩ := I.base.there b o e hx
   exact ⟨o', (hs.2 b (Nat.ne_of_lt (Nat.lt_of_lt_of_le (Heap.lt_size e) (I.ok.cab x c hfn hc)))).trans e1⟩
  ·by_cases hj : j = i
   ·subst hj
    rw [hi] at e1; cases e1;rw [List.getElem?_set_self hiσ] at e2;cases e2;exact ⟨u, r, .inr ⟨.inl hk, c, hc, hc'⟩⟩
   ·rw [List.getElem?_set_ne (Ne.symm hj)] at e2
    obtain ⟨u', r', q⟩ := hl j y v' e1 e2 e3;refine ⟨u', r', ?_⟩;rcases q with q | ⟨k, c', e, z'⟩
    ·exact .inl q
    ·refine .inr ⟨k, c', e, z'.sameBut hs ?_⟩
     rintro rfl;exact hj (sN hN e1 (I.ok.inj _ _ _ e hc ▸ hi))
  ·by_cases hcc : c' = c
   ·subst hcc; exact ⟨_, hc'⟩
   ·obtain ⟨w2, z2⟩ := I.cell y c' e
    exact ⟨w2, z2.sameBut hs hcc⟩
  ·obtain ⟨e, n, ne, nf, d⟩ := I.pin p hp
   refine ⟨(hs.2 p.1 ?_).trans e, n, ne, nf, d⟩;intro q;rw [q, hoc] at e;have q' : oc = p.2 := Option.some.inj e;exact d w' (by rw [<- q']; exact hocd)
theorem rR {M : Model} {A : Around} {E : Value -> Shared -> Prop} {i : Nat} {x : Str} {v : V} {u : Value} {Q : Unit -> Shared -> Prop} (I : Inv X aa σ H s) (hN : X.N.Nodup) (hi : X.N[i]? = some x) (hx : o6 X.env.scope x) (r : RelV v u)
  (h : ∀ s', Inv X aa (σ.set i (some v)) H s' -> Q () s') (hf : autoParam (X.fn x = true \/ X.env.scope.names.lookup x = some .local) o7._auto_1) : wpAny M A (storeName X.env x u) Q E s :=
 qa I hN hi hx r (fun s' I' _ => h s' I') hf
theorem Inv.call' {s' : Shared} {ch : List Addr} (I : Inv X aa σ H s) (ho : s'.os = s.os) (u : Un (ki X.stack) ch H H' s.heap s'.heap) (hok : HOk X.prog X.w H' s'.heap) (hg : AllBare s'.gens)
  (hch : ∀ b ∈ ch, (b ∈ X.ex \/ X.s₀.heap.objs.size <= b) /\ b ≠ X.env.locals /\ (∀ x c, X.env.cells.lookup x = some c -> c ≠ b) /\ ∀ p ∈ X.pn ++ aa, p.1 ≠ b) : Inv X aa σ H' s' := by
 obtain ⟨h', g', d', t', o'⟩ := s';have e : o' = s.os := ho;subst e;exact I.call (g' := g') (t' := t') (d' := d') u hok hg hch
end
noncomputable abbrev XK := Value -> Option Addr -> Hp -> Prop
noncomputable abbrev St := List (Option V)
noncomputable abbrev VK := V -> Hp -> Prop
noncomputable abbrev TE := St -> Hp -> VK -> Prop
noncomputable abbrev TT := St -> Hp -> (Bool -> Hp -> Prop) -> Prop
noncomputable abbrev TA := St -> Hp -> (List V -> Hp -> Prop) -> Prop
structure mq where
 nx : St -> Hp -> Prop
 rt : VK
 bk : St -> Hp -> Prop := fun _ _ => False
 ct : St -> Hp -> Prop := fun _ _ => False
noncomputable abbrev TS := mq -> St -> Hp -> Prop
noncomputable def EP (X : Cx) (aa : List (Addr × Obj)) (σ : St) (Q : VK) (u : Value) (s' : Shared) : Prop := ∃ v H', Inv X aa σ H' s' /\ RelV v u /\ Q v H'
noncomputable def TP (X : Cx) (aa : List (Addr × Obj)) (σ : St) (Q : Bool -> Hp -> Prop) (b : Bool) (s' : Shared) : Prop := ∃ H', Inv X aa σ H' s' /\ Q b H'
noncomputable def AP (X : Cx) (aa : List (Addr × Obj)) (σ : St) (Q : List V -> Hp -> Prop) (us : List Value) (s' : Shared) : Prop := ∃ vs H', Inv X aa σ H' s' /\ Vals vs us /\ Q vs H'
noncomputable def SP (X : Cx) (aa : List (Addr × Obj)) (D : mq) (f : Flow) (s' : Shared) : Prop :=
 match f with
 | .next => ∃ σ' H', Inv X aa σ' H' s' /\ D.nx σ' H'
 | .brk => ∃ σ' H', Inv X aa σ' H' s' /\ D.bk σ' H'
 | .cont => ∃ σ' H', Inv X aa σ' H' s' /\ D.ct σ' H'
 | .ret u => ∃ v σ' H', Inv X aa σ' H' s' /\ RelV v u /\ D.rt v H'
noncomputable def PE (X : Cx) (e : Expr) (t : TE) : Prop :=
 ∀ (aa : List (Addr × Obj)) (s : Shared) (σ : St) (H : Hp) (Q : VK), Inv X aa σ H s -> t σ H Q -> wpAny (model X.prog X.w) X.A (eval e X.env) (EP X aa σ Q) X.xe s
noncomputable def PT (X : Cx) (e : Expr) (t : TT) : Prop :=
 ∀ (aa : List (Addr × Obj)) (s : Shared) (σ : St) (H : Hp) (Q : Bool -> Hp -> Prop), Inv X aa σ H s -> t σ H Q -> wpAny (model X.prog X.w) X.A (isTrue e X.env (eval e X.env)) (TP X aa σ Q) X.xe s
noncomputable def PW (X : Cx) (e : Expr) (t : TT) : Prop :=
 ∀ (whole : Sem Value) (aa : List (Addr × Obj)) (s : Shared) (σ : St) (H : Hp) (Q : Bool -> Hp -> Prop), Inv X aa σ H s -> t σ H Q -> wpAny (model X.prog X.w) X.A (isTrue e X.env whole) (TP X aa σ Q) X.xe s
theorem PW.pt {X : Cx} {e : Expr} {t : TT} (h : PW X e t) : PT X e t := h _
noncomputable def PA (X : Cx) (es : List Expr) (t : TA) : Prop :=
 ∀ (pos : Pos) (aa : List (Addr × Obj)) (s : Shared) (σ : St) (H : Hp) (Q : List V -> Hp -> Prop), Inv X aa σ H s -> t σ H Q -> wpAny (model X.prog X.w) X.A (spliced (backTo pos (starEach es X.env))) (AP X aa σ Q) X.xe s
noncomputable def PS (X : Cx) (st : Stmt) (t : TS) : Prop :=
 ∀ (aa : List (Addr × Obj)) (s : Shared) (σ : St) (H : Hp) (D : mq), Inv X aa σ H s -> t D σ H -> wpAny (model X.prog X.w) X.A (exec st X.env) (SP X aa D) X.xe s
noncomputable def PSs (X : Cx) (st : List Stmt) (t : TS) : Prop :=
 ∀ (aa : List (Addr × Obj)) (s : Shared) (σ : St) (H : Hp) (D : mq), Inv X aa σ H s -> t D σ H -> wpAny (model X.prog X.w) X.A (execs st X.env) (SP X aa D) X.xe s
theorem bq {α : Type} {t : Sem α} {Q Q' : α -> Shared -> Prop} {M : Model} {A : Around} {E : Value -> Shared -> Prop} {s : Shared} (h : wpAny M A t Q E s) (hQ : ∀ a s, Q a s -> Q' a s) : wpAny M A t Q' E s := wpAny_mono h hQ fun _ _ x => x
section
variable {X : Cx}
theorem Gx {a b : Expr} {ta tb : TE} (ha : PE X a ta) (hb : PE X b tb) {aa : List (Addr × Obj)} {s : Shared} {σ : St} {H : Hp} {R : V -> V -> Hp -> Prop} (I : Inv X aa σ H s) (h : ta σ H fun x H1 => tb σ H1 fun y H2 => R x y H2)
  {α : Type} {Q : α -> Shared -> Prop} {f : Value -> Value -> Sem α}
  (hf : ∀ v u s2 x y H2, Inv X aa σ H2 s2 -> RelV x v -> RelV y u -> R x y H2 -> wpAny (model X.prog X.w) X.A (f v u) Q X.xe s2) :
  wpAny (model X.prog X.w) X.A (eval a X.env) (fun v s₁ => wpAny (model X.prog X.w) X.A (eval b X.env) (fun u s₂ => wpAny (model X.prog X.w) X.A (f v u) Q X.xe s₂) X.xe s₁) X.xe s := by
 refine bq (ha aa s σ H _ I h) fun v s1 ⟨x, H1, I1, r1, q1⟩ => ?_
 refine bq (hb aa s1 σ H1 _ I1 q1) fun u s2 ⟨y, H2, I2, r2, q2⟩ => ?_
 exact hf v u s2 x y H2 I2 r1 r2 q2
noncomputable def BO (i : Nat) : TE := fun σ H Q => ∃ v, σ[i]? = some (some v) /\ Q v H
noncomputable def tC (v : V) : TE := fun _ H Q => Q v H
theorem iu {i : Nat} {x : Str} {pos : Pos} (hN : X.N[i]? = some x) (hv : m7 X.env.scope x) (hd : autoParam ((x == ("__debug__" : Str)) = false) cx._auto_1) (hcd : autoParam ((x == ("__classdict__" : Str)) = false) cx._auto_1) : PE X (.Name x pos) (BO i) := by
 intro aa s σ H Q I h;obtain ⟨v, e, h⟩ := h;obtain ⟨m, hn, hl⟩ := I.loc;obtain ⟨u, r, l⟩ := hl i x v hN e hv;have fin : EP X aa σ Q u s := ⟨v, H, I, r, h⟩;rcases l with ⟨hk, hm⟩ | ⟨hk, c, hc, hcell⟩
 ·exact wpAny_Name (wpAny_loadName_local I.ok.kind hk hn hm fin) hd
 ·rcases hk with hk | hk
  ·exact wpAny_Name (wpAny_loadName_cell I.ok.kind hk hc hcell fin) hd
  ·exact wpAny_Name (wpAny_loadName_free I.ok.kind hk hc hcell fin hcd) hd
theorem Ct {i j pos} : PE X (.Constant (.int i) j pos) (tC (.int i)) := fun _ _ _ H _ I h => wpAny_Constant_int ⟨.int i, H, I.tok _, ⟨_, rfl⟩, h⟩
theorem Ef {b j pos} : PE X (.Constant (.bool b) j pos) (tC (.bl b)) := fun _ _ _ H _ I h => Constant_bool ⟨.bl b, H, I, rfl, h⟩
theorem Cs {x j pos} : PE X (.Constant (.str x) j pos) (tC (.str x)) := fun _ _ _ H _ I h => Calls.Constant_str ⟨.str x, H, I.tok _, ⟨_, rfl⟩, h⟩
noncomputable def Gl (X : Cx) (x : Str) : Prop := X.env.kindOf x = some .globalImplicit
theorem uX {E : Value -> Shared -> Prop} {aa : List (Addr × Obj)} {s : Shared} {σ : St} {H : Hp} {x : Str} {u : Value} {pos : Pos} {Q : Value -> Shared -> Prop} (I : Inv X aa σ H s) (hg : Gl X x) (hm : X.mg x = some u) (h : Q u s)
  (hd : autoParam ((x == ("__debug__" : Str)) = false) cx._auto_1) : wpAny (model X.prog X.w) X.A (eval (.Name x pos) X.env) Q E s :=
 Calls.Name_function_global I.ok.kind hg (Calls.loadGlobal_global (by rw [I.ok.glob]; exact I.mod.glob.keeps I.bk) hm h) hd
theorem fu {E : Value -> Shared -> Prop} {aa : List (Addr × Obj)} {s : Shared} {σ : St} {H : Hp} {x : Str} {u : Value} {pos : Pos} {Q : Value -> Shared -> Prop} (I : Inv X aa σ H s) (hg : Gl X x) (hm : X.mg x = none) (hv : bootBuiltins x = some u) (h : Q u s)
  (hn : autoParam (x ≠ "__name__") cx._auto_1) (hd : autoParam ((x == ("__debug__" : Str)) = false) cx._auto_1) : wpAny (model X.prog X.w) X.A (eval (.Name x pos) X.env) Q E s := by
 obtain ⟨mb, h1, h2⟩ := I.mod.blt;exact Calls.Name_function_global I.ok.kind hg (Calls.loadGlobal_builtin (by rw [I.ok.glob]; exact I.mod.glob.keeps I.bk) hm (by rw [I.ok.blt]; exact h1.keeps I.bk) ((h2 x hn).trans hv) h) hd
theorem uQ {x : Str} {v : V} {u : Value} {pos : Pos} (hg : Gl X x) (hm : X.mg x = some u) (r : RelV v u) (hd : autoParam ((x == ("__debug__" : Str)) = false) cx._auto_1) : PE X (.Name x pos) (tC v) :=
 fun _ _ _ H _ I h => uX I hg hm ⟨v, H, I, r, h⟩ hd
theorem A8 {x : Str} {v : V} {u : Value} {pos : Pos} (hg : Gl X x) (hm : X.mg x = none) (hv : bootBuiltins x = some u) (r : RelV v u) (hn : autoParam (x ≠ "__name__") cx._auto_1) (hd : autoParam ((x == ("__debug__" : Str)) = false) cx._auto_1) : PE X (.Name x pos) (tC v) :=
 fun _ _ _ H _ I h => fu I hg hm hv ⟨v, H, I, r, h⟩ hn hd
variable {a b : Expr} {ta tb : TE} {pos : Pos}
noncomputable def PC (X : Cx) (op : CmpOp) (a b : Expr) (t : TE) : Prop :=
 ∀ (aa : List (Addr × Obj)) (s : Shared) (σ : St) (H : Hp) (Q : VK), Inv X aa σ H s -> t σ H Q ->
  wpAny (model X.prog X.w) X.A (eval a X.env) (fun v s₁ => wpAny (model X.prog X.w) X.A (eval b X.env) (fun u s₂ => wpAny (model X.prog X.w) X.A (compareOp op v u) (EP X aa σ Q) X.xe s₂) X.xe s₁) X.xe s
theorem y2 (b : Expr) {op : CmpOp} (h : op ≠ .In) (h2 : op ≠ .NotIn) : behindInMarks op b = false := by
 have e1 : (op == CmpOp.In) = false := by cases op <;> first | rfl | exact absurd rfl h
 have e2 : (op == CmpOp.NotIn) = false := by cases op <;> first | rfl | exact absurd rfl h2
 cases b <;> simp [behindInMarks, e1, e2]
noncomputable def tB (t : TE) : TT := fun σ H Q => t σ H fun x H1 => ∃ c, x = .bl c /\ Q c H1
theorem Gf {op : CmpOp} {t : TE} (h : PC X op a b t) (h1 : autoParam (behindInMarks op b = false) Gu._auto_1) : PT X (.Compare a [op] [b] pos) (tB t) := by
 intro aa s σ H Q I hw;refine wpAny_isTrue_Compare1 (bq (h aa s σ H _ I hw) fun v s1 h1 => bq h1 fun u s2 h2 => bq h2 fun c s3 ⟨x, H1, I1, r1, q1⟩ => ?_) h1;obtain ⟨d, rfl, q⟩ := q1;cases r1;exact wpAny_truthy_bool ⟨H1, I1, q⟩
theorem Cg {e : Expr} {t : TE} (h : PE X e t) (he : autoParam (∀ whole, isTrue e X.env whole = (do let v <- whole; standAt e.pos; holding [v] (truthy v))) li._auto_1) : PT X e (tB t) := by
 intro aa s σ H Q I hw;refine isTrue_plain (bq (h aa s σ H _ I hw) fun v s1 ⟨x, H1, I1, r1, q1⟩ => ?_) (he _);obtain ⟨d, rfl, q⟩ := q1;cases r1;exact wpAny_truthy_bool ⟨H1, I1, q⟩
variable {tA tB' : TT} {cO : List Expr}
noncomputable def Fh (t u : TT) : TT := fun σ H Q => t σ H fun c H1 => if c = true then u σ H1 Q else Q false H1
noncomputable def FQ (t u : TT) : TT := fun σ H Q => t σ H fun c H1 => if c = true then Q true H1 else u σ H1 Q
noncomputable def Fa (t : TT) : TT := fun σ H Q => t σ H fun c H1 => Q (!c) H1
theorem AU (ha : PT X a tA) : PW X (.BoolOp .And [a] pos) tA := by
 intro wh aa s σ H Q I h;refine isTrue_and (bq (ha aa s σ H Q I h) fun c s1 e => ?_);cases c with
 | true => exact isTrue_and_nil e
 | false => exact e
theorem Ce (ha : PT X a tA) : PW X (.BoolOp .Or [a] pos) tA := by
 intro wh aa s σ H Q I h;refine isTrue_or (bq (ha aa s σ H Q I h) fun c s1 e => ?_);cases c with
 | false => exact isTrue_or_nil e
 | true => exact e
theorem Cf (ha : PT X a tA) (hb : PW X (.BoolOp .And (b :: cO) pos) tB') : PW X (.BoolOp .And (a :: b :: cO) pos) (Fh tA tB') := by
 intro wh aa s σ H Q I h;refine isTrue_and (bq (ha aa s σ H _ I h) fun c s1 ⟨H1, I1, q1⟩ => ?_);cases c with
 | true => exact hb wh aa s1 σ H1 Q I1 q1
 | false => exact ⟨H1, I1, q1⟩
theorem Ea (ha : PT X a tA) (hb : PW X (.BoolOp .Or (b :: cO) pos) tB') : PW X (.BoolOp .Or (a :: b :: cO) pos) (FQ tA tB') := by
 intro wh aa s σ H Q I h;refine isTrue_or (bq (ha aa s σ H _ I h) fun c s1 ⟨H1, I1, q1⟩ => ?_);cases c with
 | true => exact ⟨H1, I1, q1⟩
 | false => exact hb wh aa s1 σ H1 Q I1 q1
theorem Ch (ha : PT X a tA) : PT X (.UnaryOp .Not a pos) (Fa tA) := by
 intro aa s σ H Q I h;exact isTrue_not (ha aa s σ H (fun c H1 => Q (!c) H1) I h)
noncomputable def FS (t : TT) (ta tb : TE) : TE := fun σ H Q => t σ H fun c H1 => if c = true then ta σ H1 Q else tb σ H1 Q
theorem yS {c : Expr} (hc : PT X c tA) (ha : PE X a ta) (hb : PE X b tb) : PE X (.IfExp c a b pos) (FS tA ta tb) := by
 intro aa s σ H Q I h;refine wpAny_IfExp (bq (hc aa s σ H _ I h) fun d s1 ⟨H1, I1, q1⟩ => ?_);cases d with
 | true => exact ha aa s1 σ H1 Q I1 q1
 | false => exact hb aa s1 σ H1 Q I1 q1
end
noncomputable def cZ (K : PySem.W.Frag) (H : Hp) (a : Addr) (xs : List V) : Prop :=
 Rd H a (.lst xs) \/
  ∃ (o : Obj) (its : Array Value) (n : Nat), K.lookup a = some o /\ o.cls = .type "list" /\ o.dict = none /\ o.data = .seq its n /\ its.size <= sizeLine /\ Vals xs its.toList
noncomputable def t6 (K : PySem.W.Frag) (H : Hp) (a : Addr) (xs : List V) : Prop :=
 Rd H a (.tup xs) \/
  ∃ (o : Obj) (its : Array Value) (n : Nat), K.lookup a = some o /\ o.cls = .type "tuple" /\ o.data = .seq its n /\ its.size <= sizeLine /\ Vals xs its.toList
noncomputable def FJ : Value -> Option V
 | .none => some .non
 | .bool b => some (.bl b)
 | .int i _ => some (.int i)
 | .str x _ => some (.str x)
 | .bytes b _ => some (.byt b)
 | .float b _ => some (.flt b)
 | .ref a => some (.ref a)
 | .type n => some (.ty n)
 | _ => none
theorem RelV.abs {x : V} {u : Value} (r : RelV x u) : FJ u = some x := by
 cases x with
 | non => cases r; rfl
 | bl _ => cases r; rfl
 | int _ => obtain ⟨t, rfl⟩ := r; rfl
 | str _ => obtain ⟨t, rfl⟩ := r; rfl
 | byt _ => obtain ⟨t, rfl⟩ := r; rfl
 | flt _ => obtain ⟨t, rfl⟩ := r; rfl
 | ref _ => cases r; rfl
 | ty _ => cases r; rfl
theorem RelV.inj {x y : V} {u : Value} (r : RelV x u) (q : RelV y u) : x = y := Option.some.inj (r.abs.symm.trans q.abs)
theorem Vals.inj {xs ys : List V} {us : List Value} (h : Vals xs us) : Vals ys us -> xs = ys := by
 induction h generalizing ys with
 | nil => intro h'; cases h'; rfl
 | cons r t ih =>
  intro h';cases h' with
  | cons r' t' => rw [r.inj r', ih t']
section
variable {X : Cx} {aa : List (Addr × Obj)} {σ : St} {H : Hp} {s : Shared} {a : Addr} {xs ys : List V}
theorem Inv.list (I : Inv X aa σ H s) (h : cZ X.K H a xs) : ∃ its : List Value, Vals xs its /\ PlainL s.heap a its.toArray /\ xs.length <= sizeLine := by
 rcases h with h | ⟨o, its, n, hk, hc, hd, hs, hz, r⟩
 ·obtain ⟨z, its, n, r, e⟩ := h.ok I.hok
  exact ⟨its, r, ⟨_, n, e, rfl, rfl, rfl⟩, z⟩
 ·refine ⟨its.toList, r, ⟨o, n, I.kIn a o hk, hc, hd, by simpa using hs⟩, ?_⟩
  have e := r.length;simp only [Array.length_toList] at e;omega
theorem Inv.tuple (I : Inv X aa σ H s) (h : t6 X.K H a xs) : ∃ its : List Value, Vals xs its /\ IsTup s.heap a its.toArray /\ xs.length <= sizeLine := by
 rcases h with h | ⟨o, its, n, hk, hc, hs, hz, r⟩
 ·obtain ⟨z, its, r, p⟩ := h.ok I.hok
  exact ⟨its, r, p, z⟩
 ·refine ⟨its.toList, r, ⟨o, I.kIn a o hk, hc, n, by simpa using hs⟩, ?_⟩
  have e := r.length;simp only [Array.length_toList] at e;omega
theorem Inv.list_inj (I : Inv X aa σ H s) (h : cZ X.K H a xs) (h' : cZ X.K H a ys) : xs = ys := by
 obtain ⟨its, r, ⟨o, n, e, _, _, d⟩, _⟩ := I.list h;obtain ⟨its', r', ⟨o', n', e', _, _, d'⟩, _⟩ := I.list h';rw [e] at e'; cases e';rw [d] at d';injection d' with d1 _;have : its = its' := by simpa using congrArg Array.toList d1
 subst this;exact r.inj r'
end
noncomputable abbrev Cx.wish (X : Cx) (E : Value -> Shared -> Prop) : Cx := { X with xe := E }
noncomputable abbrev Cx.nox (X : Cx) : Cx := X.wish fun _ _ => False
theorem Cx.Ok.wish {X : Cx} (ok : X.Ok) (E : Value -> Shared -> Prop) : (X.wish E).Ok :=
 ⟨ok.mod, ok.kind, ok.glob, ok.blt, ok.above, ok.inj, ok.has, ok.cab, ok.hd, ok.frames, ok.stk, ok.exf, ok.bs, ok.bsz, ok.noex, ok.exfs, ok.funs, ok.frf⟩
theorem Cx.Ok.unwish {X : Cx} {E : Value -> Shared -> Prop} (ok : (X.wish E).Ok) : X.Ok :=
 ⟨ok.mod, ok.kind, ok.glob, ok.blt, ok.above, ok.inj, ok.has, ok.cab, ok.hd, ok.frames, ok.stk, ok.exf, ok.bs, ok.bsz, ok.noex, ok.exfs, ok.funs, ok.frf⟩
section
variable {X : Cx} {aa : List (Addr × Obj)} {σ : St} {H : Hp} {s : Shared} {E : Value -> Shared -> Prop}
theorem Inv.wish (I : Inv X aa σ H s) (E : Value -> Shared -> Prop) : Inv (X.wish E) aa σ H s := ⟨I.ok.wish E, I.os, I.bare, I.base, I.loc, I.cell, I.free, I.freeC, I.pin, I.hok, I.len⟩
theorem Inv.unwish (I : Inv (X.wish E) aa σ H s) : Inv X aa σ H s := ⟨I.ok.unwish, I.os, I.bare, I.base, I.loc, I.cell, I.free, I.freeC, I.pin, I.hok, I.len⟩
theorem SP.unwish {D : mq} {f : Flow} {s' : Shared} (h : SP (X.wish E) aa D f s') : SP X aa D f s' := by
 cases f with
 | next => obtain ⟨σ', H', I, q⟩ := h; exact ⟨σ', H', I.unwish, q⟩
 | brk => obtain ⟨σ', H', I, q⟩ := h; exact ⟨σ', H', I.unwish, q⟩
 | cont => obtain ⟨σ', H', I, q⟩ := h; exact ⟨σ', H', I.unwish, q⟩
 | ret u => obtain ⟨v, σ', H', I, r, q⟩ := h; exact ⟨v, σ', H', I.unwish, r, q⟩
theorem PSs.nox {st : List Stmt} {t : TS} (h : PSs X.nox st t) : PSs X st t := fun aa s σ H D I hw =>
 wpAny_mono (h aa s σ H D (I.wish _) hw) (fun _ _ q => q.unwish) fun _ _ z => False.elim z
end
section
variable {X : Cx} {st : Stmt} {cO : List Stmt} {t u : TS} {e : Expr} {te : TE} {pos : Pos}
noncomputable def DJ : TS := fun D σ H => D.nx σ H
noncomputable def tSeq (t u : TS) : TS := fun D σ H => t { D with nx := u D } σ H
theorem AW : PSs X [] DJ := fun _ _ σ H _ I h => wpAny_execs_nil ⟨σ, H, I, h⟩
theorem yP (h1 : PS X st t) (h2 : PSs X cO u) : PSs X (st :: cO) (tSeq t u) := by
 intro aa s σ H D I h;refine wpAny_execs_cons (bq (h1 aa s σ H { D with nx := u D } I h) fun f s1 q => ?_);cases f with
 | next =>
  obtain ⟨σ', H', I', q⟩ := q;exact h2 aa s1 σ' H' D I' q
 | ret v => exact q
 | brk => exact q
 | cont => exact q
theorem AV (h1 : PS X st t) : PSs X [st] t := by
 intro aa s σ H D I h;refine wpAny_execs_cons (bq (h1 aa s σ H D I h) fun f s1 q => ?_);cases f with
 | next => exact wpAny_execs_nil q
 | ret v => exact q
 | brk => exact q
 | cont => exact q
theorem Inv.quiet {aa : List (Addr × Obj)} {σ : St} {H : Hp} {s : Shared} (I : Inv X aa σ H s) : interactive X.env = false := by simp [interactive, I.ok.kind]
noncomputable def DK (te : TE) : TS := fun D σ H => te σ H fun _ H1 => D.nx σ H1
theorem AX (he : PE X e te) (hs : autoParam (swapsWith e none pos.line X.env = pure false) au._auto_1) : PS X (.Expr e pos) (DK te) := by
 intro aa s σ H D I h;exact wpAny_Expr_any (bq (he aa s σ H _ I h) fun v s1 ⟨x, H1, I1, r1, q1⟩ => ⟨σ, H1, I1, q1⟩) I.quiet hs
noncomputable def E9 (te : TE) : TS := fun D σ H => te σ H D.rt
theorem Cj (he : PE X e te) : PS X (.Return (some e) pos) (E9 te) := by
 intro aa s σ H D I h;exact wpAny_Return_some (bq (he aa s σ H _ I h) fun v s1 ⟨x, H1, I1, r1, q1⟩ => ⟨x, σ, H1, I1, r1, q1⟩)
noncomputable def Fd (c : TT) (t u : TS) : TS := fun D σ H => c σ H fun b H1 => if b = true then t D σ H1 else u D σ H1
theorem Eb {c : Expr} {a b : List Stmt} {tc : TT} (hc : PT X c tc) (ha : PSs X a t) (hb : PSs X b u) : PS X (.If c a b pos) (Fd tc t u) := by
 intro aa s σ H D I h;refine wpAny_If (bq (hc aa s σ H _ I h) fun d s1 ⟨H1, I1, q1⟩ => ?_);cases d with
 | true => exact ha aa s1 σ H1 D I1 q1
 | false => exact hb aa s1 σ H1 D I1 q1
noncomputable def BP : TS := fun _ _ _ => False
theorem xg {sts : List Stmt} : PSs X sts BP := fun _ _ _ _ _ _ h => h.elim
end
noncomputable abbrev TG := V -> St -> Hp -> (St -> Hp -> Prop) -> Prop
noncomputable abbrev oY := List V -> St -> Hp -> (St -> Hp -> Prop) -> Prop
noncomputable def PG (X : Cx) (target : Expr) (t : TG) : Prop :=
 ∀ (aa : List (Addr × Obj)) (s : Shared) (σ : St) (H : Hp) (v : V) (u : Value) (Q : St -> Hp -> Prop), Inv X aa σ H s -> RelV v u -> t v σ H Q ->
  wpAny (model X.prog X.w) X.A (assign target X.env u) (fun _ s' => ∃ σ' H', Inv X aa σ' H' s' /\ Q σ' H') X.xe s
noncomputable def t8 (X : Cx) (ts : List Expr) (t : oY) : Prop :=
 ∀ (aa : List (Addr × Obj)) (s : Shared) (σ : St) (H : Hp) (vs : List V) (us : List Value) (Q : St -> Hp -> Prop), Inv X aa σ H s -> Vals vs us -> t vs σ H Q ->
  wpAny (model X.prog X.w) X.A (assignInOrder ((assignEach ts X.env).map (·.2)) us) (fun _ s' => ∃ σ' H', Inv X aa σ' H' s' /\ Q σ' H') X.xe s
noncomputable abbrev t5 := V -> V -> V -> Hp -> (Hp -> Prop) -> Prop
noncomputable def zE (X : Cx) (t : t5) : Prop :=
 ∀ (aa : List (Addr × Obj)) (s : Shared) (σ : St) (H : Hp) (o i v : V) (ov iv u : Value) (Q : Hp -> Prop), Inv X aa σ H s -> RelV o ov -> RelV i iv -> RelV v u -> t o i v H Q ->
  wpAny (model X.prog X.w) X.A (setItem ov iv u) (fun _ s' => ∃ H', Inv X aa σ H' s' /\ Q H') X.xe s
noncomputable abbrev Do := V -> V -> Hp -> VK -> Prop
noncomputable def Gs (X : Cx) (op : Operator) (t : Do) : Prop :=
 ∀ (aa : List (Addr × Obj)) (s : Shared) (σ : St) (H : Hp) (x y : V) (v u : Value) (Q : VK), Inv X aa σ H s -> RelV x v -> RelV y u -> t x y H Q ->
  wpAny (model X.prog X.w) X.A (inplaceOp op v u) (EP X aa σ Q) X.xe s
section
variable {X : Cx} {pos : Pos}
noncomputable def ou (i : Nat) : TG := fun v σ H Q => Q (σ.set i (some v)) H
theorem A6 {i : Nat} {x : Str} (hN : X.N.Nodup) (hi : X.N[i]? = some x) (hx : o6 X.env.scope x) (hf : autoParam (X.fn x = true \/ X.env.scope.names.lookup x = some .local) o7._auto_1) : PG X (.Name x pos) (ou i) := by
 intro aa s σ H v u Q I r h;exact wpAny_assign_Name (rR I hN hi hx r (fun s' I' => ⟨_, H, I', h⟩) hf)
noncomputable def FH : oY := fun vs σ H Q => vs = [] /\ Q σ H
noncomputable def EC (t : TG) (u : oY) : oY := fun vs σ H Q => ∃ v r, vs = v :: r /\ t v σ H fun σ' H' => u r σ' H' Q
theorem A5 : t8 X [] FH := by
 intro aa s σ H vs us Q I r h;obtain ⟨e, h⟩ := h;subst e;cases r;exact assignInOrder_nil ⟨σ, H, I, h⟩
theorem yR {e : Expr} {es : List Expr} {t : TG} {u : oY} (h1 : PG X e t) (h2 : t8 X es u)
  (hs : autoParam ((assignEach (e :: es) X.env).map (·.2) = assign e X.env :: (assignEach es X.env).map (·.2)) au._auto_1) : t8 X (e :: es) (EC t u) := by
 intro aa s σ H vs us Q I r h;obtain ⟨v, vr, e1, h⟩ := h;subst e1;cases r with
 | cons r rr =>
  rw [hs];refine assignInOrder_cons (bq (h1 aa s σ H _ _ _ I r h) fun _ s1 ⟨σ1, H1, I1, q1⟩ => ?_);exact h2 aa s1 σ1 H1 _ _ Q I1 rr q1
noncomputable def FF (K : PySem.W.Frag) (n : Nat) (t : oY) : TG := fun v σ H Q => ∃ a xs, v = .ref a /\ t6 K H a xs /\ xs.length = n /\ t xs σ H Q
theorem Co {es : List Expr} {k : Nat} {t : oY} {n : Nat} (hc : X.calm = true) (h : t8 X es t)
  (hn : autoParam ((assignEach es X.env).length = n) au._auto_1) (hst : autoParam ((assignEach es X.env).findIdx? (·.1) = none) au._auto_1) : PG X (.Tuple es k pos) (FF X.K n t) := by
 intro aa s σ H v u Q I r hw;obtain ⟨a, xs, e1, hq, hl, hw⟩ := hw;subst e1;cases r;obtain ⟨its, rv, ht, hz⟩ := I.tuple hq;refine assign_Tuple_tuple (I.ok.hd hc) ht (by simp [hn, <- hl, rv.length]) hst fun h' hx => ?_
 have I1 : Inv X aa σ H { s with heap := h' } := I.kept (t' := s.toks) fun b o e => hx b o (Nat.ne_of_lt (Heap.lt_size e)) e
 exact h aa _ σ H xs _ Q I1 (by simpa using rv) hw
noncomputable def pO (to ti : TE) (t : t5) : TG := fun v σ H Q => to σ H fun o H1 => ti σ H1 fun i H2 => t o i v H2 fun H3 => Q σ H3
theorem Cp {o i : Expr} {to ti : TE} {t : t5} (ho : PE X o to) (hi : PE X i ti) (hs : zE X t)
  (ha : autoParam (∀ v, assign (.Subscript o i pos) X.env v = (do
   let ov <- holding [v] (eval o X.env)
   let iv <- holding [v, ov] (eval i X.env)
   standAt pos
   holding [v, ov, iv] (setItem ov iv v)
   release [v, ov, iv] [])) li._auto_1) : PG X (.Subscript o i pos) (pO to ti t) := by
 intro aa s σ H v u Q I r h;rw [ha];refine wpAny_bind (wpAny_holding (bq (ho aa s σ H _ I h) fun ov s1 ⟨x, H1, I1, r1, q1⟩ => ?_));refine wpAny_bind (wpAny_holding (bq (hi aa s1 σ H1 _ I1 q1) fun iv s2 ⟨y, H2, I2, r2, q2⟩ => ?_));refine wpAny_bind (wpAny_standAt (wpAny_bind (wpAny_holding (bq (hs aa s2 σ H2 x y v ov iv u _ I2 r1 r2 r q2) fun _ s3 ⟨H3, I3, q3⟩ => ?_))));exact wpAny_release ⟨σ, H3, I3, q3⟩
noncomputable def yz (te : TE) (g : TG) : TS := fun D σ H => te σ H fun x H1 => g x σ H1 D.nx
theorem Cl {tg e : Expr} {te : TE} {g : TG} (he : PE X e te) (hg : PG X tg g) (hs : autoParam (swapsWithSole [tg] e pos.line X.env = pure false) au._auto_1) (hw : autoParam (swappedStores [tg] e X.env = pure none) au._auto_1)
  (h1 : autoParam ((assignEach [tg] X.env).map (·.2) = [assign tg X.env]) au._auto_1) : PS X (.Assign [tg] e pos) (yz te g) := by
 intro aa s σ H D I h;refine wpAny_Assign_stores (bq (he aa s σ H _ I h) fun v s1 ⟨x, H1, I1, r1, q1⟩ => ?_) hs hw;rw [h1];exact bq (hg aa s1 σ H1 x v _ I1 r1 q1) fun _ s2 q => q
theorem Ci {i : Nat} {x : Str} {e : Expr} {te : TE} {pos' : Pos} (hN : X.N.Nodup) (hi : X.N[i]? = some x) (hx : o6 X.env.scope x) (he : PE X e te) (hs : autoParam (swapsWith e (some (.Name x pos')) pos.line X.env = pure false) au._auto_1) (hf : autoParam (X.fn x = true \/ X.env.scope.names.lookup x = some .local) o7._auto_1) :
  PS X (.Assign [.Name x pos'] e pos) (yz te (ou i)) := by
 intro aa s σ H D I h;refine wpAny_Assign_Name (bq (he aa s σ H _ I h) fun v s1 ⟨y, H1, I1, r1, q1⟩ => ?_) hs;exact rR I1 hN hi hx r1 (fun s2 I2 => ⟨_, H1, I2, q1⟩) hf
noncomputable def DM (to ti te : TE) (tget : V -> V -> Hp -> VK -> Prop) (tip : Do) (tset : t5) : TS := fun D σ H => to σ H fun o H1 => ti σ H1 fun i H2 => tget o i H2 fun x H3 => te σ H3 fun y H4 => tip x y H4 fun z H5 => tset o i z H5 fun H6 => D.nx σ H6
noncomputable def Ds (X : Cx) (t : V -> V -> Hp -> VK -> Prop) : Prop :=
 ∀ (aa : List (Addr × Obj)) (s : Shared) (σ : St) (H : Hp) (o i : V) (ov iv : Value) (Q : VK), Inv X aa σ H s -> RelV o ov -> RelV i iv -> t o i H Q ->
  wpAny (model X.prog X.w) X.A (getItem ov iv) (EP X aa σ Q) X.xe s
theorem AY {o i e : Expr} {to ti te : TE} {tget : V -> V -> Hp -> VK -> Prop} {tip : Do} {tset : t5} {op : Operator} {tpos : Pos} (ho : PE X o to) (hi : PE X i ti) (hg : Ds X tget) (he : PE X e te) (hp : Gs X op tip) (hs : zE X tset)
  (ha : autoParam (∀ ov iv new, augStore i ov iv new = (do holding [new, ov, iv] (setItem ov iv new); release [new, ov, iv] []; pure .next)) E6._auto_1) : PS X (.AugAssign (.Subscript o i tpos) op e pos) (DM to ti te tget tip tset) := by
 intro aa s σ H D I h;refine wpAny_AugAssign_SubscriptAny (bq (ho aa s σ H _ I h) fun ov s1 ⟨x1, H1, I1, r1, q1⟩ => ?_) ha;refine bq (hi aa s1 σ H1 _ I1 q1) fun iv s2 ⟨x2, H2, I2, r2, q2⟩ => ?_
 refine bq (hg aa s2 σ H2 x1 x2 ov iv _ I2 r1 r2 q2) fun old s3 ⟨x3, H3, I3, r3, q3⟩ => ?_
 refine bq (he aa s3 σ H3 _ I3 q3) fun v s4 ⟨x4, H4, I4, r4, q4⟩ => ?_
 refine bq (hp aa s4 σ H4 x3 x4 old v _ I4 r3 r4 q4) fun new s5 ⟨x5, H5, I5, r5, q5⟩ => ?_
 exact bq (hs aa s5 σ H5 x1 x2 x5 ov iv new _ I5 r1 r2 r5 q5) fun _ s6 ⟨H6, I6, q6⟩ => ⟨σ, H6, I6, q6⟩
end
section
variable {X : Cx} {pos : Pos}
end
structure It where
 go : Nat -> Hp -> Prop
 yld : Nat -> Hp -> V -> Hp -> Prop
 stop : Nat -> Hp -> Prop
noncomputable def eJ (X : Cx) (aa : List (Addr × Obj)) (H : Hp) (b : Addr) : Prop :=
 H b = none /\ b ≠ X.env.locals /\ b ∉ X.fs /\ (b ∈ X.ex \/ X.s₀.heap.objs.size <= b) /\ (∀ x c, X.env.cells.lookup x = some c -> c ≠ b) /\ ∀ p ∈ X.pn ++ aa, p.1 ≠ b
theorem Inv.fpOk {X : Cx} {aa : List (Addr × Obj)} {σ : St} {H H' : Hp} {s : Shared} {b : Addr} (I : Inv X aa σ H s) (hb : s.heap.objs.size <= b) (hn : H' b = none) : eJ X aa H' b := by
 refine ⟨hn, Nat.ne_of_gt (Nat.lt_of_lt_of_le I.lt hb), I.nofs hb, .inr (Nat.le_trans I.sz hb), fun x c e z => ?_, fun p hp z => ?_⟩
 ·obtain ⟨v, q⟩ := I.cell x c e
  exact absurd (Nat.lt_of_lt_of_le q.lt (by rw [z]; exact hb)) (Nat.lt_irrefl _)
 ·exact absurd (Nat.lt_of_lt_of_le (Heap.lt_size (I.pin p hp).1) (by rw [z]; exact hb)) (Nat.lt_irrefl _)
structure mi (P : Program) (w : World) (K : PySem.W.Frag) (tg : Expr) (J : It) (fp : List Addr) (it : Addr) (tn : Nat -> Heap -> Prop) : Prop where
 mem : it ∈ fp
 obj : ∀ i h, tn i h -> ∀ b ∈ fp, ∃ o, h.get? b = some o /\ ∀ v, o.data ≠ .cell v
 keep : ∀ i h h', tn i h -> (∀ b ∈ fp, ∀ o, h.get? b = some o -> h'.get? b = some o) -> tn i h'
 item : ∀ (X : Cx), X.prog = P -> X.w = w -> X.K = K -> X.calm = true -> ∀ (i : Nat) (aa : List (Addr × Obj)) (s : Shared) (σ : St) (H : Hp) (E : Value -> Shared -> Prop), Inv X aa σ H s -> (∀ b ∈ fp, eJ X aa H b) -> tn i s.heap -> J.go i H ->
  wpAny (model P w) X.A (pyNext (.ref it)) (fun r s1 => ∃ u, r = some u /\
   wpAny (model P w) X.A (letOwnedTupleGo tg (.ref it) u) (fun _ s2 => ∃ x H', Inv X aa σ H' s2 /\ RelV x u /\ J.yld i H x H' /\ tn (i + 1) s2.heap /\ ∀ b ∈ fp, H' b = none) E s1) E s
 done : ∀ (X : Cx), X.prog = P -> X.w = w -> X.K = K -> X.calm = true -> ∀ (i : Nat) (aa : List (Addr × Obj)) (s : Shared) (σ : St) (H : Hp) (E : Value -> Shared -> Prop), Inv X aa σ H s -> (∀ b ∈ fp, eJ X aa H b) -> tn i s.heap -> J.stop i H ->
  wpAny (model P w) X.A (pyNext (.ref it)) (fun r s1 => r = none /\ Inv X aa σ H s1) E s
 self : ∀ (A : Around) (i : Nat) (s : Shared) (Q : Value -> Shared -> Prop) (E : Value -> Shared -> Prop), tn i s.heap -> Q (.ref it) s -> wpAny (model P w) A (pyIter (.ref it)) Q E s
noncomputable abbrev TI := St -> Hp -> (It -> Hp -> Prop) -> Prop
noncomputable def Dr (X : Cx) (aa : List (Addr × Obj)) (σ : St) (tg : Expr) (R : It -> Hp -> Prop) (itv : Value) (s2 : Shared) : Prop :=
 ∃ (it : Addr) (fp : List Addr) (tn : Nat -> Heap -> Prop) (J : It) (H' : Hp), itv = .ref it /\ Inv X aa σ H' s2 /\ mi X.prog X.w X.K tg J fp it tn /\ tn 0 s2.heap /\ (∀ b ∈ fp, eJ X aa H' b) /\ R J H'
noncomputable def PI (X : Cx) (tg iter : Expr) (wi : TI) : Prop :=
 ∀ (aa : List (Addr × Obj)) (s : Shared) (σ : St) (H : Hp) (R : It -> Hp -> Prop), Inv X aa σ H s -> wi σ H R ->
  wpAny (model X.prog X.w) X.A (eval iter X.env) (fun v s1 => wpAny (model X.prog X.w) X.A (pyIter v) (Dr X aa σ tg R) X.xe s1) X.xe s
theorem wj {M : Model} {A : Around} {E : Value -> Shared -> Prop} {s : Shared} {tg : Expr} {it : Addr} {u : Value} {o : Obj} {n : String} {vs : Array Value} {Q : Unit -> Shared -> Prop} (ho : s.heap.get? it = some o) (hc : o.cls = .type n) (hd : o.data = .fields vs)
  (hn : ["enumerate", "zip", "dict_itemiterator", "dict_reverseitemiterator", "odict_iterator", "itertools.zip_longest", "itertools.pairwise"].contains n = false) (hQ : Q () s) : wpAny M A (letOwnedTupleGo tg (.ref it) u) Q E s := by
 unfold letOwnedTupleGo;cases tg <;> first
  | exact wpAny_pure hQ
  | (cases u <;> first
    | exact wpAny_pure hQ
    | (refine wpAny_bind (wpAny_load ho ?_)
       rw [hc, hd];show wpAny M A (if (["enumerate", "zip", "dict_itemiterator", "dict_reverseitemiterator", "odict_iterator", "itertools.zip_longest", "itertools.pairwise"].contains n && vs[0]? == some (rawInt _)) = true then _ else _) Q E s;rw [if_neg (by intro h; rw [hn, Bool.false_and] at h; cases h)];exact wpAny_pure hQ))
noncomputable def Dw (K : PySem.W.Frag) (a : Addr) : It :=
 ⟨fun i H => ∃ xs x, cZ K H a xs /\ xs[i]? = some x, fun i H x H' => H' = H /\ ∀ xs, cZ K H a xs -> xs[i]? = some x, fun i H => ∃ xs, cZ K H a xs /\ xs.length <= i⟩
noncomputable def vx (lo : Int) (n : Nat) : It := ⟨fun i _ => i < n, fun i H x H' => H' = H /\ x = .int (lo + i), fun i _ => n <= i⟩
theorem wF {P : Program} {w : World} {K : PySem.W.Frag} {tg : Expr} (a it : Addr) : mi P w K tg (Dw K a) [it] it (fun i h => h.IsListIter it a i) where
 mem := by simp
 obj := fun i h st b hb => by
  have e : b = it := by simpa using hb
  subst e;obtain ⟨o, e, c, d⟩ := st;exact ⟨o, e, fun v z => by rw [d] at z; cases z⟩
 keep := fun i h h' st k => st.at fun o e => k it (by simp) o e
 item := by
  intro X hP hw hK hc i aa s σ H E I hf st hg;subst hP hw hK;obtain ⟨xs, x, hq, hx⟩ := hg;obtain ⟨its, rv, p, hz⟩ := I.list hq;obtain ⟨u, hu, ru⟩ := rv.get hx;obtain ⟨f0, f1, f2, f3, f4, f5⟩ := hf it (by simp);refine wpAny_pyNext_list_item st p.isList (x := u) (by simpa using hu) fun h' st' sb => ?_
  have I1 : Inv X aa σ H { s with heap := h' } := I.turned (t' := s.toks) (fun b o hb e => (sb.2 b hb).trans e) f0 f1 f3 f4 f5;obtain ⟨o, e, c, d⟩ := id st';exact ⟨u, rfl, wj (s := { s with heap := h' }) e c d dC ⟨x, H, I1, ru, ⟨rfl, fun ys hy => by rw [I.list_inj hy hq]; exact hx⟩, st', fun b hb => (hf b hb).1⟩⟩
 done := by
  intro X hP hw hK hc i aa s σ H E I hf st hg;subst hP hw hK;obtain ⟨xs, hq, hx⟩ := hg;obtain ⟨its, rv, p, hz⟩ := I.list hq;obtain ⟨f0, f1, f2, f3, f4, f5⟩ := hf it (by simp);have hl := rv.length;exact wpAny_pyNext_list_end (I.ok.hd hc) st p.isList (by simp; omega) fun h' eb => ⟨rfl, I.turned (t' := s.toks) (fun b o hb e => eb b o hb e) f0 f1 f3 f4 f5⟩
 self := fun _ _ _ _ _ st h => wpAny_pyIter_listiter st h
theorem vB {P : Program} {w : World} {K : PySem.W.Frag} {tg : Expr} (it : Addr) (lo : Int) (n : Nat) : mi P w K tg (vx lo n) [it] it (fun i h => IsRangeIter h it (lo + (i : Nat) * 1) ((n : Int) - (i : Nat)) 1) where
 mem := by simp
 obj := fun i h st b hb => by
  have e : b = it := by simpa using hb
  subst e;exact ⟨_, st, fun v z => by
   have z' : Data.fields _ = Data.cell v := z;cases z'⟩
 keep := fun i h h' st k => k it (by simp) _ st
 item := by
  intro X hP hw hK hc i aa s σ H E I hf st hg;subst hP hw hK;obtain ⟨f0, f1, f2, f3, f4, f5⟩ := hf it (by simp);have W := Walks.range (prog := X.prog) (w := X.w) (I.ok.hd hc) it lo 1 n;refine W.item i s _ _ hg st fun v h' tk hv st' kk => ?_
  obtain ⟨t, rfl⟩ := hv;have I1 : Inv X aa σ H { s with heap := h', toks := tk } := I.turned (fun b o hb e => kk b o (by simpa using hb) e) f0 f1 f3 f4 f5;refine ⟨_, rfl, wj (s := { s with heap := h', toks := tk }) (n := "range_iterator") st' rfl rfl dC ⟨.int (lo + i), H, I1, ⟨t, ?_⟩, ⟨rfl, rfl⟩, st', fun b hb => (hf b hb).1⟩⟩;rw [Int.mul_one]
 done := by
  intro X hP hw hK hc i aa s σ H E I hf st hg;subst hP hw hK;obtain ⟨f0, f1, f2, f3, f4, f5⟩ := hf it (by simp);exact wpAny_pyNext_range_end (I.ok.hd hc) st (by have : n <= i := hg; omega) fun h' eb => ⟨rfl, I.turned (t' := s.toks) (fun b o hb e => eb b o hb e) f0 f1 f3 f4 f5⟩
 self := fun _ _ _ _ _ st h => wpAny_pyIter_rangeiter st h
section
variable {X : Cx} {tg : Expr}
noncomputable def EA (K : PySem.W.Frag) (tl : TE) : TI := fun σ H R => tl σ H fun x H1 => ∃ a, x = .ref a /\ (∃ xs, cZ K H1 a xs) /\ R (Dw K a) H1
theorem A3 {l : Expr} {tl : TE} (hl : PE X l tl) : PI X tg l (EA X.K tl) := by
 intro aa s σ H R I h;refine bq (hl aa s σ H _ I h) fun v s1 ⟨x, H1, I1, r1, q1⟩ => ?_
 obtain ⟨a, e, ⟨xs, hq⟩, q⟩ := q1;subst e;cases r1;obtain ⟨its, rv, p, hz⟩ := I1.list hq;refine wpAny_pyIter_list p.isList ?_;refine ⟨s1.heap.objs.size, [s1.heap.objs.size], _, _, H1, rfl, I1.kept (t' := s1.toks) fun b o e => Heap.get?_push_of_some _ e, wF a _, ⟨_, Heap.get?_push_size _ rfl, rfl, rfl⟩, fun b hb => ?_, q⟩;have e : b = s1.heap.objs.size := by simpa using hb
 subst e;exact I1.fpOk (Nat.le_refl _) (I1.hok.fresh (Nat.le_refl _))
theorem sj {aa : List (Addr × Obj)} {σ : St} {H : Hp} {s : Shared} {R : It -> Hp -> Prop} {E : Value -> Shared -> Prop} {lo hi : Int} {t u v : Tok} {tk : Nat} (I : Inv X aa σ H s) (h1 : -(2 ^ 62) <= lo) (h2 : lo < 2 ^ 62) (h3 : -(2 ^ 62) <= hi) (h4 : hi < 2 ^ 62)
  (q : R (vx lo (hi - lo).toNat) H) : wpAny (model X.prog X.w) X.A (pyIter (.ref s.heap.objs.size)) (Dr X aa σ tg R) E { s with heap := s.heap.push { cls := .type "range", data := .fields #[.int lo t, .int hi u, .int 1 v] }, toks := tk } := by
 refine wpAny_pyIter_range (IsRange.new ..) (small_one h1 h2 h3 h4) ?_;have I1 : Inv X aa σ H { s with heap := s.heap.push { cls := .type "range", data := .fields #[.int lo t, .int hi u, .int 1 v] }, toks := tk } := I.kept fun b o e => Heap.get?_push_of_some _ e
 refine ⟨(s.heap.push { cls := .type "range", data := .fields #[.int lo t, .int hi u, .int 1 v] }).objs.size, [(s.heap.push { cls := .type "range", data := .fields #[.int lo t, .int hi u, .int 1 v] }).objs.size], _, _, H, rfl,
  I1.kept (t' := tk) fun b o e => Heap.get?_push_of_some _ e, vB _ lo (hi - lo).toNat, ?_, fun b hb => ?_, q⟩
 ·have e1 : lo + ((0 : Nat) : Int) * 1 = lo := by simp
  have e2 : (((hi - lo).toNat : Nat) : Int) - ((0 : Nat) : Int) = Builtin.Range.rangeSize lo hi 1 := by rw [rangeSize_one]; split <;> omega
  show IsRangeIter _ _ (lo + ((0 : Nat) : Int) * 1) ((((hi - lo).toNat : Nat) : Int) - ((0 : Nat) : Int)) 1;rw [e1, e2];exact Heap.get?_push_size _ rfl
 ·have e : b = (s.heap.push { cls := .type "range", data := .fields #[.int lo t, .int hi u, .int 1 v] }).objs.size := by simpa using hb
  subst e;exact I1.fpOk (Nat.le_refl _) (I1.hok.fresh (Nat.le_refl _))
noncomputable def Ez (ta : TA) : TI := fun σ H R => ta σ H fun vs H1 => ∃ j : Int, vs = [.int j] /\ -(2 ^ 62) <= j /\ j < 2 ^ 62 /\ R (vx 0 j.toNat) H1
noncomputable def Ey (ta : TA) : TI := fun σ H R => ta σ H fun vs H1 => ∃ i j : Int, vs = [.int i, .int j] /\ (-(2 ^ 62) <= i /\ i < 2 ^ 62 /\ -(2 ^ 62) <= j /\ j < 2 ^ 62) /\ R (vx i (j - i).toNat) H1
theorem xl {a : Expr} {ta : TA} {p pos : Pos} (hg : Gl X "range") (hm : X.mg "range" = none) (ha : PA X [a] ta) (hs : autoParam (starEach [a] X.env = [(false, eval a X.env)]) au._auto_1) : PI X tg (.Call (.Name "range" p) [a] [] pos) (Ez ta) := by
 intro aa s σ H R I h;refine Call_ (fu I hg hm boot_range (PyProof.Rows.callWith_type1 (bq (ha pos aa s σ H _ I h) fun us s1 ⟨vs, H1, I1, r1, q1⟩ => ?_) hs rfl));obtain ⟨j, e, q1, q2, q⟩ := q1;subst e;cases r1 with
 | cons r rr =>
  cases rr;obtain ⟨t, rfl⟩ := r;exact call_range_1 (sj I1 oM oM q1 q2 (by simpa using q))
theorem xk {a b : Expr} {ta : TA} {p pos : Pos} (hg : Gl X "range") (hm : X.mg "range" = none) (ha : PA X [a, b] ta) (hs : autoParam (starEach [a, b] X.env = [(false, eval a X.env), (false, eval b X.env)]) au._auto_1) (hs2 : autoParam (starEach [b] X.env = [(false, eval b X.env)]) au._auto_1) :
  PI X tg (.Call (.Name "range" p) [a, b] [] pos) (Ey ta) := by
 intro aa s σ H R I h;refine Call_ (fu I hg hm boot_range (PyProof.Rows.callWith_type1 (bq (ha pos aa s σ H _ I h) fun us s1 ⟨vs, H1, I1, r1, q1⟩ => ?_) (by rw [hs, hs2]) (by rw [hs2]; rfl)));obtain ⟨i, j, e, ⟨q1, q2, q3, q4⟩, q⟩ := q1;subst e;cases r1 with
 | cons r rr =>
  cases rr with
  | cons r' rr =>
   cases rr;obtain ⟨t, rfl⟩ := r;obtain ⟨t', rfl⟩ := r';exact call_range_2 (sj I1 q1 q2 q3 q4 q)
noncomputable def Fe (wi : TI) (g : TG) (tb : TS) : TS := fun D σ H => wi σ H fun J H1 => ∃ W : Nat -> Nat -> St -> Hp -> Prop, (∃ m, W 0 m σ H1) /\ ∀ i m σ H, W i m σ H ->
 (J.stop i H /\ D.nx σ H) \/ (J.go i H /\ ∃ N : St -> Hp -> Prop, (∀ σ' H', N σ' H' -> ∃ m', m' < m /\ W (i + 1) m' σ' H') /\ ∀ x H', J.yld i H x H' -> g x σ H' fun σ2 H2 => tb { D with nx := N, ct := N, bk := D.nx } σ2 H2)
noncomputable def lz (fp : List Addr) (h : Heap) : List (Addr × Obj) := fp.filterMap fun b => (h.get? b).map fun o => (b, o)
theorem iP {fp : List Addr} {h : Heap} {b : Addr} {o : Obj} (hb : b ∈ fp) (e : h.get? b = some o) : (b, o) ∈ lz fp h := List.mem_filterMap.mpr ⟨b, hb, by rw [e]; rfl⟩
theorem xz {fp : List Addr} {h : Heap} {p : Addr × Obj} (hp : p ∈ lz fp h) : p.1 ∈ fp /\ h.get? p.1 = some p.2 := by
 obtain ⟨b, hb, e⟩ := List.mem_filterMap.mp hp;cases q : h.get? b with
 | none => rw [q] at e; cases e
 | some o =>
  rw [q] at e;have e' : (b, o) = p := Option.some.inj e;subst e';exact ⟨hb, q⟩
theorem Inv.pinned {aa : List (Addr × Obj)} {σ : St} {H : Hp} {s : Shared} {fp : List Addr} (I : Inv X aa σ H s) (hf : ∀ b ∈ fp, eJ X aa H b) (ho : ∀ b ∈ fp, ∃ o, s.heap.get? b = some o /\ ∀ v, o.data ≠ .cell v) : Inv X (aa ++ lz fp s.heap) σ H s :=
 I.pins_of fun p hp => (List.mem_append.mp hp).elim (fun z => I.pin p (List.mem_append_right _ z)) fun z => by
  obtain ⟨hb, e⟩ := xz z;obtain ⟨f0, f1, f2, _⟩ := hf p.1 hb;obtain ⟨o, e', d⟩ := ho p.1 hb;rw [e] at e'; cases e';exact ⟨e, f0, f1, f2, d⟩
theorem Inv.unpinned {aa pl : List (Addr × Obj)} {σ : St} {H : Hp} {s : Shared} (I : Inv X (aa ++ pl) σ H s) : Inv X aa σ H s := I.pins_of fun p hp => I.pin p (List.mem_append_right _ (List.mem_append_left _ hp))
theorem Ck {iter : Expr} {body : List Stmt} {wi : TI} {g : TG} {tb : TS} {pos : Pos} (hp : PassesOwn (model X.prog X.w) X.A X.env X.xe) (hc : X.calm = true) (hi : PI X tg iter wi) (hg : PG X tg g) (hb : PSs X body tb)
  (hs : autoParam (∀ x, foldedSetIterable iter X.env x = pure x) li._auto_1) : PS X (.For tg iter body [] pos) (Fe wi g tb) := by
 intro aa s σ H D I h;refine wpAny_For (bq (hi aa s σ H _ I h) fun v s1 h1 => bq h1 fun itv s2 h2 => ?_) hs;obtain ⟨it, fp, tn, J, H2, e, I2, T, st2, f2, W, ⟨m0, w0⟩, turn⟩ := h2;subst e
 -- what stays true of the iterator's objects through the loop
 have stat : ∀ {H' : Hp}, (∀ b ∈ fp, H' b = none) -> ∀ b ∈ fp, eJ X aa H' b := fun hn b hb => ⟨hn b hb, (f2 b hb).2⟩
 refine codeAny_forLoop_any (fun n s' => ∃ i σ' H', Inv X aa σ' H' s' /\ tn i s'.heap /\ (∀ b ∈ fp, H' b = none) /\ W i n σ' H') ?_ m0 ⟨0, σ, H2, I2, st2, fun b hb => (f2 b hb).1, w0⟩;rintro n s3 ⟨i, σ3, H3, I3, st3, fr3, w3⟩;rcases turn i n σ3 H3 w3 with ⟨stop, qn⟩ | ⟨go, N, hN, step⟩
 ·refine wpAny_passesOwn hp (bq (T.done X rfl rfl rfl hc i aa s3 σ3 H3 X.xe I3 (stat fr3) st3 stop) fun r s4 ⟨hr, I4⟩ => ?_)
  subst hr;exact wpAny_execs_nil ⟨σ3, H3, I4, qn⟩
 ·refine wpAny_passesOwn hp (bq (T.item X rfl rfl rfl hc i aa s3 σ3 H3 X.xe I3 (stat fr3) st3 go) fun r s4 ⟨u, hr, h4⟩ => ?_)
  subst hr;refine wpAny_passesOwn hp (bq h4 fun _ s5 ⟨x, H5, I5, r5, y5, st5, fr5⟩ => ?_);have I5' := I5.pinned (stat fr5) (T.obj _ _ st5);refine wpAny_passesOwn hp (bq (hg _ s5 σ3 H5 x u _ I5' r5 (step x H5 y5)) fun _ s6 ⟨σ6, H6, I6, q6⟩ => ?_);refine wpAny_passesOwn hp (bq (hb _ s6 σ6 H6 _ I6 q6) fun f s7 q7 => ?_);have again : ∀ {σ7 : St} {H7 : Hp}, Inv X (aa ++ lz fp s5.heap) σ7 H7 s7 -> N σ7 H7 -> ∃ m, m < n /\ ∃ i σ' H', Inv X aa σ' H' s7 /\ tn i s7.heap /\ (∀ b ∈ fp, H' b = none) /\ W i m σ' H' := fun {σ7 H7} I7 n7 => by
   obtain ⟨m', hm, w7⟩ := hN σ7 H7 n7;refine ⟨m', hm, i + 1, σ7, H7, I7.unpinned, T.keep _ _ _ st5 fun b hb o e => (I7.pin (b, o) (List.mem_append_right _ (List.mem_append_right _ (iP hb e)))).1, fun b hb => ?_, w7⟩;obtain ⟨o, e, d⟩ := T.obj _ _ st5 b hb;exact (I7.pin (b, o) (List.mem_append_right _ (List.mem_append_right _ (iP hb e)))).2.1
  cases f with
  | next => obtain ⟨σ7, H7, I7, n7⟩ := q7; exact again I7 n7
  | cont => obtain ⟨σ7, H7, I7, n7⟩ := q7; exact again I7 n7
  | brk => obtain ⟨σ7, H7, I7, q7⟩ := q7; exact ⟨σ7, H7, I7.unpinned, q7⟩
  | ret v => obtain ⟨x7, σ7, H7, I7, r7, q7⟩ := q7; exact ⟨x7, σ7, H7, I7.unpinned, r7, q7⟩
end
noncomputable abbrev R2 := V -> V -> Hp -> VK -> Prop
noncomputable def em (X : Cx) (f : Value -> Value -> Sem Value) (r : R2) : Prop :=
 ∀ (aa : List (Addr × Obj)) (s : Shared) (σ : St) (H : Hp) (x y : V) (v u : Value) (Q : VK), Inv X aa σ H s -> RelV x v -> RelV y u -> r x y H Q ->
  wpAny (model X.prog X.w) X.A (f v u) (EP X aa σ Q) X.xe s
noncomputable def Dm (X : Cx) (f : Value -> Sem Value) (r : V -> Hp -> VK -> Prop) : Prop :=
 ∀ (aa : List (Addr × Obj)) (s : Shared) (σ : St) (H : Hp) (x : V) (v : Value) (Q : VK), Inv X aa σ H s -> RelV x v -> r x H Q ->
  wpAny (model X.prog X.w) X.A (f v) (EP X aa σ Q) X.xe s
noncomputable def CallR (X : Cx) (f : Value) (r : List V -> Hp -> VK -> Prop) : Prop :=
 ∀ (aa : List (Addr × Obj)) (s : Shared) (σ : St) (H : Hp) (xs : List V) (us : List Value) (Q : VK), Inv X aa σ H s -> Vals xs us -> r xs H Q ->
  wpAny (model X.prog X.w) X.A (call f us) (EP X aa σ Q) X.xe s
noncomputable def nR (r : R2) (ta tb : TE) : TE := fun σ H Q => ta σ H fun x H1 => tb σ H1 fun y H2 => r x y H2 Q
noncomputable def FO (r : V -> Hp -> VK -> Prop) (ta : TE) : TE := fun σ H Q => ta σ H fun x H1 => r x H1 Q
noncomputable def rI (C : Int -> Int -> Prop) (g : Int -> Int -> V) : R2 := fun x y H Q => ∃ i j, x = .int i /\ y = .int j /\ C i j /\ Q (g i j) H
noncomputable def kU (g : Int -> Int -> V) : R2 := fun x y H Q => ∃ i j, x = .int i /\ y = .int j /\ Q (g i j) H
noncomputable def rU (g : Int -> V) : V -> Hp -> VK -> Prop := fun x H Q => ∃ i, x = .int i /\ Q (g i) H
section
variable {X : Cx} {a b c : Expr} {ta tb tc : TE} {pos : Pos}
theorem zz (ha : PE X a ta) (hb : PE X b tb) {aa : List (Addr × Obj)} {s : Shared} {σ : St} {H : Hp} {R : V -> V -> Hp -> Prop} (I : Inv X aa σ H s)
  (h : ta σ H fun x H1 => tb σ H1 fun y H2 => R x y H2) {Q : Value -> Shared -> Prop} {f : Value -> Value -> Sem Value}
  (hf : ∀ v u s2 x y H2, Inv X aa σ H2 s2 -> RelV x v -> RelV y u -> R x y H2 -> wpAny (model X.prog X.w) X.A (f v u) Q X.xe s2) :
  wpAny (model X.prog X.w) X.A (eval a X.env) (fun v s₁ => wpAny (model X.prog X.w) X.A (eval b X.env) (fun u s₂ => wpAny (model X.prog X.w) X.A (f v u) Q X.xe s₂) X.xe s₁) X.xe s := by
 refine bq (ha aa s σ H _ I h) fun v s1 ⟨x, H1, I1, r1, q1⟩ => ?_
 refine bq (hb aa s1 σ H1 _ I1 q1) fun u s2 ⟨y, H2, I2, r2, q2⟩ => ?_
 exact hf v u s2 x y H2 I2 r1 r2 q2
theorem vV {op : Operator} {r : R2} (ho : em X (binaryOp op) r) (ha : PE X a ta) (hb : PE X b tb) : PE X (.BinOp a op b pos) (nR r ta tb) := by
 intro aa s σ H Q I h;exact wpAny_BinOp (zz ha hb I h fun v u s2 x y H2 I2 rx ry q => ho aa s2 σ H2 x y v u Q I2 rx ry q)
theorem Ec {op : UnaryOp} {r : V -> Hp -> VK -> Prop} (ho : Dm X (unaryOp op) r) (ha : PE X a ta) : PE X (.UnaryOp op a pos) (FO r ta) := by
 intro aa s σ H Q I h;exact UnaryOp_ (bq (ha aa s σ H _ I h) fun v s1 ⟨x, H1, I1, r1, q1⟩ => ho aa s1 σ H1 x v Q I1 r1 q1)
theorem uS {f : Value -> Value -> Sem Value} {C : Int -> Int -> Prop} {g : Int -> Int -> Int}
  (rule : ∀ (i j : Int) (t u : Tok) (s : Shared) (Q : Value -> Shared -> Prop) (E : Value -> Shared -> Prop), C i j -> Q (.int (g i j) s.toks) { s with toks := s.toks + 1 } -> wpAny (model X.prog X.w) X.A (f (.int i t) (.int j u)) Q E s) :
  em X f (rI C fun i j => .int (g i j)) := by
 intro aa s σ H x y v u Q I rx ry h;obtain ⟨i, j, rfl, rfl, hc, q⟩ := h;obtain ⟨t, rfl⟩ := rx;obtain ⟨t', rfl⟩ := ry;exact rule i j t t' s _ _ hc ⟨.int (g i j), H, I.tok _, ⟨_, rfl⟩, q⟩
theorem sD {f : Value -> Value -> Sem Value} {g : Int -> Int -> Int}
  (rule : ∀ (i j : Int) (t u : Tok) (s : Shared) (Q : Value -> Shared -> Prop) (E : Value -> Shared -> Prop), Q (.int (g i j) s.toks) { s with toks := s.toks + 1 } -> wpAny (model X.prog X.w) X.A (f (.int i t) (.int j u)) Q E s) :
  em X f (kU fun i j => .int (g i j)) := by
 intro aa s σ H x y v u Q I rx ry h;obtain ⟨i, j, rfl, rfl, q⟩ := h;obtain ⟨t, rfl⟩ := rx;obtain ⟨t', rfl⟩ := ry;exact rule i j t t' s _ _ ⟨.int (g i j), H, I.tok _, ⟨_, rfl⟩, q⟩
theorem yU {f : Value -> Value -> Sem Value} {g : Int -> Int -> Bool}
  (rule : ∀ (i j : Int) (t u : Tok) (s : Shared) (Q : Value -> Shared -> Prop) (E : Value -> Shared -> Prop), Q (.bool (g i j)) s -> wpAny (model X.prog X.w) X.A (f (.int i t) (.int j u)) Q E s) :
  em X f (kU fun i j => .bl (g i j)) := by
 intro aa s σ H x y v u Q I rx ry h;obtain ⟨i, j, rfl, rfl, q⟩ := h;obtain ⟨t, rfl⟩ := rx;obtain ⟨t', rfl⟩ := ry;exact rule i j t t' s _ _ ⟨.bl (g i j), H, I, rfl, q⟩
noncomputable def wx (i j : Int) : Prop := 0 <= j /\ j <= 1000000 /\ i.natAbs < 2 ^ 64
noncomputable def CMul (i j : Int) : Prop := (-(2 ^ 64) < i /\ i < 2 ^ 64) \/ (-(2 ^ 64) < j /\ j < 2 ^ 64)
theorem CMul.ok {i j : Int} (h : CMul i j) : IntMulOk i j := by
 rcases h with ⟨h1, h2⟩ | ⟨h1, h2⟩
 ·exact .of_left (intBits_le_64 h1 h2)
 ·exact .of_right (intBits_le_64 h1 h2)
theorem vA (k : Nat) : (0 : Int) <= 2 ^ k := by
 rw [two_pow_cast];exact Int.natCast_nonneg _
theorem CF : em X (binaryOp .Add) (kU fun i j => .int (i + j)) := sD fun _ _ _ _ _ _ _ q => add_int q
theorem Cv : em X (binaryOp .Sub) (kU fun i j => .int (i - j)) := sD fun _ _ _ _ _ _ _ q => sub_int q
theorem CB : em X (binaryOp .Mult) (rI CMul fun i j => .int (i * j)) := uS fun _ _ _ _ _ _ _ hc q => mul_int q hc.ok
theorem CC : em X (binaryOp .Mod) (rI (fun _ j => 0 < j) fun i j => .int (i % j)) := uS fun i j _ _ _ _ _ hc q => by
 have h1 : (0 : Int) < j := hc;exact mod_int' oM (by rw [Int.fmod_eq_emod_of_nonneg i oM]; exact q)
theorem CA : em X (binaryOp .Pow) (rI wx fun i j => .int (i ^ j.toNat)) := uS fun _ _ _ _ _ _ _ hc q => pow_int_small hc.1 hc.2.1 hc.2.2 q
theorem Cy : em X (binaryOp .LShift) (rI wx fun i j => .int (i * 2 ^ j.toNat)) := uS fun _ _ _ _ _ _ _ hc q => lshift_int_small hc.1 hc.2.1 hc.2.2 q
theorem Cw : em X (binaryOp .RShift) (rI (fun _ j => 0 <= j) fun i j => .int (i / 2 ^ j.toNat)) := uS fun i j _ _ _ _ _ hc q =>
 rshift_int hc (by rw [Int.fdiv_eq_ediv_of_nonneg i (vA _)]; exact q)
theorem CD : em X (binaryOp .BitAnd) (kU fun i j => .int (Builtin.bitAnd i j)) := sD fun _ _ _ _ _ _ _ q => and_int q
theorem Eg : em X (binaryOp .BitOr) (kU fun i j => .int (Builtin.bitOr i j)) := sD fun _ _ _ _ _ _ _ q => or_int q
theorem Bx : em X (inplaceOp .Add) (kU fun i j => .int (i + j)) := sD fun _ _ _ _ _ _ _ q => iadd_int q
theorem FN {f : Value -> Sem Value} {g : Int -> Int}
  (rule : ∀ (i : Int) (t : Tok) (s : Shared) (Q : Value -> Shared -> Prop) (E : Value -> Shared -> Prop), Q (.int (g i) s.toks) { s with toks := s.toks + 1 } -> wpAny (model X.prog X.w) X.A (f (.int i t)) Q E s) :
  Dm X f (rU fun i => .int (g i)) := by
 intro aa s σ H x v Q I rx h;obtain ⟨i, rfl, q⟩ := h;obtain ⟨t, rfl⟩ := rx;exact rule i t s _ _ ⟨.int (g i), H, I.tok _, ⟨_, rfl⟩, q⟩
theorem BM : Dm X (unaryOp .USub) (rU fun i => .int (-i)) := FN fun _ _ _ _ _ q => neg_int q
end
noncomputable def scal : V -> V -> Bool
 | .non, .non => true | .non, .int _ => true | .int _, .non => true | .non, .bl _ => true | .bl _, .non => true | .non, .str _ => true | .str _, .non => true
 | .int _, .int _ => true | .bl _, .bl _ => true | .str _, .str _ => true | .byt _, .byt _ => true
 | .int _, .str _ => true | .str _, .int _ => true | .bl _, .str _ => true | .str _, .bl _ => true
 | _, _ => false
section
variable {X : Cx} {a b c : Expr} {ta tb tc : TE} {pos : Pos}
theorem Da {aa : List (Addr × Obj)} {σ : St} {H : Hp} {s : Shared} {Q : VK} {k k' : Bool} (I : Inv X aa σ H s) (q : Q (.bl k) H) (e : k = k') : EP X aa σ Q (.bool k') s := by
 subst e;exact ⟨.bl k, H, I, rfl, q⟩
theorem Eh : em X (compareOp .Lt) (kU fun i j => .bl (decide (i < j))) := yU fun _ _ _ _ _ _ _ q => lt_int q
theorem Ei : em X (compareOp .Gt) (kU fun i j => .bl (decide (j < i))) := yU fun _ _ _ _ _ _ _ q => gt_int q
theorem Ej : em X (compareOp .GtE) (kU fun i j => .bl (decide (j <= i))) := yU fun _ _ _ _ _ _ _ q => ge_int q
theorem xq : em X (compareOp .In) (fun x y H Q => ∃ i j, x = .str i /\ y = .str j /\ Q (.bl (!(Builtin.Str.occurrences j i 0 j.length 1).isEmpty)) H) := by
 intro aa s σ H x y v u Q I rx ry h;obtain ⟨i, j, rfl, rfl, q⟩ := h;obtain ⟨t, rfl⟩ := rx;obtain ⟨t', rfl⟩ := ry;exact in_str (Da I q rfl)
theorem aR (b : Expr) {op : CmpOp} (h : autoParam (op ≠ .In) cx._auto_1) (h2 : autoParam (op ≠ .NotIn) cx._auto_1) : behindInMarks op b = false := by
 have e1 : (op == CmpOp.In) = false := by cases op <;> first | rfl | exact absurd rfl h
 have e2 : (op == CmpOp.NotIn) = false := by cases op <;> first | rfl | exact absurd rfl h2
 cases b <;> simp [behindInMarks, e1, e2]
theorem pB {op : CmpOp} {r : R2} (ho : em X (compareOp op) r) (ha : PE X a ta) (hb : PE X b tb) (hm : behindInMarks op b = false) : PE X (.Compare a [op] [b] pos) (nR r ta tb) := by
 intro aa s σ H Q I h;exact wpAny_Compare1 (zz ha hb I h fun v u s2 x y H2 I2 rx ry q => ho aa s2 σ H2 x y v u Q I2 rx ry q) hm
noncomputable def DF (t : TE) : TT := fun σ H Q => t σ H fun x H' => ∃ k, x = .bl k /\ Q k H'
theorem uO {op : CmpOp} {r : R2} (ho : em X (compareOp op) r) (ha : PE X a ta) (hb : PE X b tb) (hm : behindInMarks op b = false) : PT X (.Compare a [op] [b] pos) (DF (nR r ta tb)) := by
 intro aa s σ H Q I h;refine wpAny_isTrue_Compare1 (bq (ha aa s σ H _ I h) fun v s1 ⟨x, H1, I1, r1, q1⟩ => bq (hb aa s1 σ H1 _ I1 q1) fun u s2 ⟨y, H2, I2, r2, q2⟩ =>
  bq (ho aa s2 σ H2 x y v u _ I2 r1 r2 q2) fun c s3 ⟨z, H3, I3, r3, k, e, q3⟩ => ?_) hm
 subst e;cases r3;exact wpAny_truthy_bool ⟨H3, I3, q3⟩
theorem jo : (sizeLine : Nat) < 2 ^ 63 := by rw [sizeLine_eq]; decide
theorem vY : em X (binaryOp .Add) (fun x y H Q => ∃ i j, x = .str i /\ y = .str j /\ i.length + j.length <= sizeLine /\ Q (.str (i ++ j)) H) := by
 intro aa s σ H x y v u Q I rx ry h;obtain ⟨i, j, rfl, rfl, hz, q⟩ := h;obtain ⟨t, rfl⟩ := rx;obtain ⟨t', rfl⟩ := ry;exact add_str (fun t' tk => ⟨.str (i ++ j), H, I.tok _, ⟨_, rfl⟩, q⟩) hz
theorem iL {x : V} {us : List Value} (r : Vals [x] us) : ∃ u, us = [u] /\ RelV x u := by
 cases r with
 | cons r1 r2 => cases r2; exact ⟨_, rfl, r1⟩
theorem DB {x y : V} {us : List Value} (r : Vals [x, y] us) : ∃ u w', us = [u, w'] /\ RelV x u /\ RelV y w' := by
 cases r with
 | cons r1 r2 =>
  cases r2 with
  | cons r3 r4 => cases r4; exact ⟨_, _, rfl, r1, r3⟩
theorem zv : CallR X (.builtin "abs") (fun xs H Q => ∃ i, xs = [.int i] /\ Q (.int (if i < 0 then -i else i)) H) := by
 intro aa s σ H xs us Q I r h;obtain ⟨i, rfl, q⟩ := h;obtain ⟨u, rfl, t, rfl⟩ := iL r;exact call_abs_int fun u tk => ⟨.int (if i < 0 then -i else i), H, I.tok _, ⟨_, rfl⟩, q⟩
theorem yb : CallR X (.type "int") (fun xs H Q => (∃ i, xs = [.int i] /\ Q (.int i) H) \/ ∃ k, xs = [.bl k] /\ Q (.int (if k then 1 else 0)) H) := by
 intro aa s σ H xs us Q I r h;rcases h with ⟨i, rfl, q⟩ | ⟨k, rfl, q⟩
 ·obtain ⟨u, rfl, t, rfl⟩ := iL r
  exact call_int_int ⟨.int i, H, I, ⟨_, rfl⟩, q⟩
 ·obtain ⟨u, rfl, r1⟩ := iL r
  cases r1;exact call_int_bool ⟨.int (if k then 1 else 0), H, I.tok _, ⟨_, rfl⟩, q⟩
end
structure ObjM (h : Heap) (x dx C : Addr) (mA : Str -> Option Value) : Prop where
 obj : h.get? x = some (instObj C dx)
 ns : h.Ns1 dx mA
 ne : dx ≠ x
theorem xE {h : Heap} {dx : Addr} {mA : Str -> Option Value} (n : h.Ns1 dx mA) : ∃ od, h.get? dx = some od /\ ∀ name, lookIn name od = some (mA name) := by
 obtain ⟨o, es, ep, ho, hd, hk, _, hm⟩ := n;refine ⟨o, ho, fun name => ?_⟩;have e := hm name;unfold nsFind findBy at e;rw [<- Array.find?_toList] at e;unfold lookIn;rw [hd];dsimp only;split
 ·rename_i y q
  rw [q] at e;exact congrArg some e
 ·rename_i q
  rw [q] at e;have a : es.toList.any (·.refKey) = false := by
   rw [List.any_eq_false];intro y hy;obtain ⟨z, t, hkey⟩ := hk y (Array.mem_toList_iff.mp hy);simp [DictEntry.refKey, hkey]
  have a' : ¬ es.toList.any (·.refKey) = true := by rw [a]; exact Bool.false_ne_true
  rw [if_neg a'];exact congrArg some e
theorem ObjM.look {h : Heap} {x dx C : Addr} {mA : Str -> Option Value} (I : ObjM h x dx C mA) : ∃ od, InstAt h x (instObj C dx) C (some od) /\ ∀ name, lookIn name od = some (mA name) :=
 let ⟨od, ho, hl⟩ := xE I.ns
 ⟨od, ⟨I.obj, rfl, rfl, ho⟩, hl⟩
section
variable {prog : Program} {w : World} {A : Around} {E : Value -> Shared -> Prop} {s : Shared} {K : PySem.W.Frag} {x dx C f : Addr} {mA : Str -> Option Value} {name : Str} {v : Value}
end
section
variable {P : Program} {w : World} {H H' : Hp} {h h' : Heap} {a C dx : Addr} {fs fs' : List (Str × V)}
theorem By (hok : HOk P w H h) (e : H a = some (.ins C dx fs)) : ∃ mA, ObjM h a dx C mA /\ (∀ f, zD (fs.lookup f) (mA f)) /\ PySem.Within mA (fs.map (·.1)) /\ fs.length <= 1000 /\ H dx = some (.own a) := by
 obtain ⟨d, z, ne, ob, mA, n, r, q⟩ := (show ObjOk P w H h a (.ins C dx fs) from hok a _ e);exact ⟨mA, ⟨ob, n, ne⟩, r, q, z, d⟩
end
structure Cls (K : PySem.W.Frag) (C : Addr) : Prop where
 pg : plainGet K C Str.empty = true
 hd : hasDictIn K C = true
 po : plainOver K C = true
 sa : findIn K (.ref C) "__setattr__" = some (some (.builtin "object.__setattr__"))
theorem Cls.get {K : PySem.W.Frag} {C : Addr} (c : Cls K C) (f : Str) : plainGet K C f = true := c.pg
section
variable {X : Cx} {aa : List (Addr × Obj)} {σ : St} {H : Hp} {s : Shared} {a C dx : Addr} {fs : List (Str × V)} {f : Str} {v : V} {A : Around} {E : Value -> Shared -> Prop}
end
section
variable {X : Cx} {o e value : Expr} {f : Str} {pos pos' tpos : Pos} {ta tv : TE}
end
section
variable {X : Cx} {aa : List (Addr × Obj)} {σ : St} {H : Hp} {s : Shared} {A : Around} {E : Value -> Shared -> Prop} {Q : Value -> Shared -> Prop} {c : Value} {b : Bool}
inductive TyOf (K : PySem.W.Frag) (H : Hp) : V -> Value -> Prop where
 | non : TyOf K H .non (.type "NoneType")
 | bl (x : Bool) : TyOf K H (.bl x) (.type "bool")
 | int (i : Int) : TyOf K H (.int i) (.type "int")
 | str (x : Str) : TyOf K H (.str x) (.type "str")
 | flt (x : UInt64) : TyOf K H (.flt x) (.type "float")
 | lst {a : Addr} {xs : List V} (e : H a = some (.lst xs)) : TyOf K H (.ref a) (.type "list")
 | frz {a : Addr} {o : Obj} {xs : List V} (e : H a = some (.frz o (.lst xs))) : TyOf K H (.ref a) (.type "list")
 | tup {a : Addr} {xs : List V} (e : H a = some (.tup xs)) : TyOf K H (.ref a) (.type "tuple")
 | dK {a : Addr} {kvs : List (fD × V)} (e : H a = some (.dK kvs)) : TyOf K H (.ref a) (.type "dict")
 | dT {a : Addr} {kvs : List (List fD × V)} (e : H a = some (.dT kvs)) : TyOf K H (.ref a) (.type "dict")
 | ins {a C dx : Addr} {fs : List (Str × V)} (e : H a = some (.ins C dx fs)) (cl : Cls K C) (ha : findIn K (.ref C) "__class__" = some (some (.builtin "object.__class__")))
   (hn : specialIn K (.builtin "object.__class__") "__get__" = some (some (.builtin "getset_descriptor.__get__"))) (htk : takesIn K (.builtin "object.__class__") = some true)
   (hm : mroIn K C (.type "object") = some true) : TyOf K H (.ref a) (.ref C)
theorem jJ {x : V} {u t : Value} (I : Inv X aa σ H s) (rx : RelV x u) (ty : TyOf X.K H x t) (e : kitOne X.K t c = some b) (h : ∀ tk, Q (.bool b) { s with toks := tk }) :
  wpAny (model X.prog X.w) A (call (.builtin "isinstance") [u, c]) Q E s := by
 cases ty with
 | non => cases (show u = Value.none from rx); exact kia_one kitx_none I.kIn True.intro e (fun z => nomatch z) h
 | bl y => cases (show u = Value.bool y from rx); exact kia_one kitx_bool I.kIn True.intro e (fun z => nomatch z) h
 | int i => obtain ⟨t, q⟩ := (show ∃ t, u = Value.int i t from rx); cases q; exact kia_one kitx_int I.kIn True.intro e (fun z => nomatch z) h
 | str y => obtain ⟨t, q⟩ := (show ∃ t, u = Value.str y t from rx); cases q; exact kia_one kitx_str I.kIn True.intro e (fun z => nomatch z) h
 | flt y => obtain ⟨t, q⟩ := (show ∃ t, u = Value.float y t from rx); cases q; exact kia_one kitx_float I.kIn True.intro e (fun z => nomatch z) h
 | @lst a xs ea =>
  cases (show u = Value.ref a from rx);obtain ⟨_, _, n, _, h1⟩ := (show ObjOk X.prog X.w H s.heap a (.lst xs) from I.hok a _ ea);exact kia_one kitx_list I.kIn ⟨_, h1, rfl⟩ e (fun z => nomatch z) h
 | @frz a ob xs ea =>
  cases (show u = Value.ref a from rx);obtain ⟨_, _, _, n, _, h1⟩ := (show ObjOk X.prog X.w H s.heap a (.frz ob (.lst xs)) from I.hok a _ ea);exact kia_one kitx_list I.kIn ⟨_, h1, rfl⟩ e (fun z => nomatch z) h
 | @tup a xs ea =>
  cases (show u = Value.ref a from rx);obtain ⟨_, _, _, p⟩ := (show ObjOk X.prog X.w H s.heap a (.tup xs) from I.hok a _ ea);obtain ⟨o, h1, h2, _⟩ := p;exact kia_one kitx_tuple I.kIn ⟨o, h1, h2⟩ e (fun z => nomatch z) h
 | @dK a kvs ea =>
  cases (show u = Value.ref a from rx);obtain ⟨_, _, vs, _, p⟩ := (show ObjOk X.prog X.w H s.heap a (.dK kvs) from I.hok a _ ea);obtain ⟨o, es, ep, h1, h2, _⟩ := p;exact kia_one kitx_dict I.kIn ⟨o, h1, h2.1⟩ e (fun z => nomatch z) h
 | @dT a kvs ea =>
  cases (show u = Value.ref a from rx);obtain ⟨_, _, xs, _, o, es, ep, h1, h2, _⟩ := (show ObjOk X.prog X.w H s.heap a (.dT kvs) from I.hok a _ ea);exact kia_one kitx_dict I.kIn ⟨o, h1, h2.1⟩ e (fun z => nomatch z) h
 | @ins a C dx fs ea cl ha hn htk hm =>
  cases (show u = Value.ref a from rx);obtain ⟨mA, O, _⟩ := By I.hok ea;obtain ⟨od, J, _⟩ := O.look;exact kia_one (kitx_own (cl.get _) cl.hd ha hn htk hm) I.kIn J e (fun z => nomatch z) h
end
structure Room (k : Nat) (A : Around) : Prop where
 hd : A.handled = none
 dp : A.depth + 3 * k + 5 < recursionLimit
 un : A.units + 16 * k + 200 < cLine
 gd : A.guards = some []
theorem Room.mono {j k : Nat} {A : Around} (r : Room k A) (h : j <= k) : Room j A := ⟨r.hd, by have := r.dp; omega, by have := r.un; omega, r.gd⟩
theorem Room.deeper {k : Nat} {A : Around} (r : Room (k + 1) A) (env : Env) : Room k (A.deeper env) :=
 ⟨r.hd, by have := r.dp; show A.depth + 1 + 3 * k + 5 < _; omega, by have := r.un; show A.units + 3 + 16 * k + 200 < _; omega, r.gd⟩
theorem Room.depth {k : Nat} {A : Around} (r : Room k A) : A.depth < recursionLimit := by have := r.dp; omega
theorem Room.units {k : Nat} {A : Around} (r : Room k A) : A.units + 64 < cLine := by have := r.un; omega
noncomputable def Fb : TA := fun _ H Q => Q [] H
noncomputable def DL (ta : TE) (tr : TA) : TA := fun σ H Q => ta σ H fun x H1 => tr σ H1 fun xs H2 => Q (x :: xs) H2
section
variable {X : Cx} {e : Expr} {es : List Expr} {te : TE} {t : TA} {pos : Pos}
theorem dQ : PA X [] Fb := fun _ _ _ _ H Q I h => Calls.spliced_nil ⟨[], H, I, .nil, h⟩
theorem cE (ha : PE X e te) (hr : PA X es t) (hs : autoParam (starEach (e :: es) X.env = (false, eval e X.env) :: starEach es X.env) au._auto_1) : PA X (e :: es) (DL te t) := by
 intro pos aa s σ H Q I h;rw [hs];show wpAny _ _ (spliced ((false, eval e X.env) :: backTo pos (starEach es X.env))) _ _ s;refine Calls.spliced_cons (bq (ha aa s σ H _ I h) fun u s1 ⟨x, H1, I1, r1, q1⟩ => ?_);exact bq (hr pos aa s1 σ H1 _ I1 q1) fun us s2 ⟨xs, H2, I2, r2, q2⟩ => ⟨x :: xs, H2, I2, .cons r1 r2, q2⟩
noncomputable def E8 (t : TA) : TE := fun σ H Q => t σ H fun xs H1 => xs.length <= sizeLine /\ ∀ p, H1 p = none -> Q (.ref p) (ay H1 p (.tup xs))
noncomputable def Fc (t : TA) : TE := fun σ H Q => t σ H fun xs H1 => xs.length <= sizeLine /\ ∀ p, H1 p = none -> Q (.ref p) (ay H1 p (.lst xs))
theorem Cr {x1} (h : PA X es t) : PE X (.Tuple es x1 pos) (E8 t) := by
 intro aa s σ H Q I hq;refine wpAny_Tuple_spliced (bq (h pos aa s σ H _ I hq) fun us s1 ⟨xs, H1, I1, r, z, q⟩ => ⟨by rw [<- r.length]; exact z, ?_⟩);have hf : H1 s1.heap.objs.size = none := I1.hok.fresh (Nat.le_refl _);refine ⟨.ref s1.heap.objs.size, ay H1 s1.heap.objs.size (.tup xs), I1.laid (t' := s1.toks) (fun b u e => Heap.get?_push_of_some _ e) (Nat.le_refl _) ?_, rfl, q _ hf⟩;exact ⟨z, us, r, ⟨_, Heap.get?_push_size _ rfl, rfl, _, rfl⟩⟩
theorem xm (h : PA X es t) : PE X (.List es pos) (Fc t) := by
 intro aa s σ H Q I hq;refine wpAny_List_spliced (bq (h pos aa s σ H _ I hq) fun us s1 ⟨xs, H1, I1, r, z, q⟩ => ⟨by rw [<- r.length]; exact z, ?_⟩);have hf : H1 s1.heap.objs.size = none := I1.hok.fresh (Nat.le_refl _);refine ⟨.ref s1.heap.objs.size, ay H1 s1.heap.objs.size (.lst xs), I1.laid (t' := s1.toks) (fun b u e => Heap.get?_push_of_some _ e) (Nat.le_refl _) ?_, rfl, q _ hf⟩;exact ⟨z, us, 0, r, Heap.get?_push_size _ rfl⟩
end
noncomputable abbrev Sp := List V -> Hp -> VK -> XK -> Prop
noncomputable abbrev mv := List Env -> Hp -> Shared -> XK -> Value -> Shared -> Prop
structure ww (P : Program) (w : World) (K : PySem.W.Frag) (mg : Str -> Option Value) (base : Heap) (A : Around) (outer : List Env) (s : Shared) (H : Hp) : Prop where
 frames : A.frames = some outer
 mod : Mod K mg base
 bs : ∀ b o, base.get? b = some o -> s.heap.get? b = some o /\ H b = none
 bsz : base.objs.size <= s.heap.objs.size
 funs : s.heap.FunFrames base outer
 frf : ∀ b ∈ ki outer, H b = none
 hok : HOk P w H s.heap
 bare : AllBare s.gens
noncomputable def CE (outer : List Env) (P : Program) (w : World) (H : Hp) (s : Shared) (Q : VK) (u : Value) (s' : Shared) : Prop :=
 ∃ v H', s'.os = s.os /\ AllBare s'.gens /\ Un (ki outer) [] H H' s.heap s'.heap /\ HOk P w H' s'.heap /\ RelV v u /\ Q v H'
noncomputable def CR (CX : mv) (outer : List Env) (P : Program) (w : World) (H : Hp) (s : Shared) (Q : VK) (E : XK) (r : Result) (s' : Shared) : Prop :=
 match r with
 | .ok (.ret u) => CE outer P w H s Q u s'
 | .ok _ => False
 | .error e => CX outer H s E e s'
structure bY (P : Program) (w : World) (K : PySem.W.Frag) (mg : Str -> Option Value) (base : Heap) (CX : mv) (k : Nat) (f : Addr) (fd : FuncData) (ps : List Str) (sp : Sp) : Prop where
 len : ∀ vs H Q E, sp vs H Q E -> vs.length = ps.length
 run : ∀ (A : Around) (outer : List Env) (s : Shared) (H : Hp) (args : Args) (us : List Value) (vs : List V) (Q : VK) (E : XK), Room k A -> ww P w K mg base A outer s H -> BindsTo s fd args (ps.zip us) -> Vals vs us -> sp vs H Q E ->
  codeAny (model P w) A (.call (.ref f) args) (CR CX outer P w H s Q E) s
section
variable {X : Cx} {aa : List (Addr × Obj)} {σ : St} {H : Hp} {s s' : Shared}
theorem Inv.env0 (I : Inv X aa σ H s) : ww X.prog X.w X.K X.mg X.base X.A X.stack s H :=
 ⟨I.ok.frames, I.ok.mod, I.bs, Nat.le_trans I.ok.bsz I.sz, I.stack, I.stkFree, I.hok, I.bare⟩
theorem Inv.after {Q : VK} {u : Value} (I : Inv X aa σ H s) (h : CE X.stack X.prog X.w H s Q u s') : EP X aa σ Q u s' := by
 obtain ⟨v, H', os, bare, un, hok, r, q⟩ := h;obtain ⟨hh, g, d, t, os'⟩ := s';obtain rfl : os' = s.os := os;exact ⟨v, H', I.call (h' := hh) (g' := g) (d' := d) (t' := t) (ch := []) un hok bare (fun b z => absurd z (by simp)), r, q⟩
end
noncomputable def vH (sp : Sp) (dvs : List V) (E : XK) (t : TA) : TE := fun σ H Q => t σ H fun vs H1 => sp (vs ++ dvs) H1 Q E
noncomputable def Binds (K : PySem.W.Frag) (fd : FuncData) (ps : List Str) (ds : List Value) : Prop :=
 ∀ (s : Shared) (us : List Value), K.In s.heap -> (us ++ ds).length = ps.length -> BindsTo s fd ⟨us, []⟩ (ps.zip (us ++ ds))
theorem Binds.all {K : PySem.W.Frag} {fd : FuncData} {ps : List Str} (h : ∀ us : List Value, us.length = ps.length -> bindArgs fd ⟨us, []⟩ = pure (ps.zip us)) : Binds K fd ps [] := fun s us _ hl => by
 rw [List.append_nil] at hl ⊢;exact .of_eq (h us hl)
noncomputable def t7 (CX : mv) (X : Cx) (E : XK) : Prop := ∀ (aa : List (Addr × Obj)) (σ : St) (H : Hp) (s : Shared) (e : Value) (s' : Shared), Inv X aa σ H s -> CX X.stack H s E e s' -> X.xe e s'
section
variable {X : Cx} {CX : mv} {k : Nat} {f C : Addr} {fd : FuncData} {ps : List Str} {sp : Sp} {dvs : List V} {ds : List Value} {E : XK} {x m : Str} {p pos apos : Pos} {e o : Expr} {es : List Expr} {ta : TE} {t : TA}
theorem BZ {aa : List (Addr × Obj)} {σ : St} {H : Hp} {s : Shared} {Q : VK} {us : List Value} {vs : List V} (F : bY X.prog X.w X.K X.mg X.base CX k f fd ps sp) (hr : Room k X.A) (hb : Binds X.K fd ps ds) (hd : Vals dvs ds) (hx : t7 CX X E)
  (I : Inv X aa σ H s) (r : Vals vs us) (h : sp (vs ++ dvs) H Q E) : wpAny (model X.prog X.w) X.A (call (.ref f) us) (EP X aa σ Q) X.xe s := by
 have r2 : Vals (vs ++ dvs) (us ++ ds) := r.append hd;have hl : (us ++ ds).length = ps.length := by rw [<- r2.length]; exact F.len _ _ _ _ h
 refine wpAny_call (codeAny_mono (F.run X.A X.stack s H ⟨us, []⟩ (us ++ ds) (vs ++ dvs) Q E hr I.env0 (hb s us I.kIn hl) r2 h) fun r s' hq => ?_);cases r with
 | error e => exact hx aa σ H s e s' I hq
 | ok fl =>
  cases fl with
  | ret u => exact I.after hq
  | next => exact False.elim hq
  | brk => exact False.elim hq
  | cont => exact False.elim hq
theorem uR (F : bY X.prog X.w X.K X.mg X.base CX k f fd ps sp) (hr : Room k X.A) (hg : Gl X x) (hm : X.mg x = some (.ref f)) (hk : keepIn X.K (.ref f) = true) (hb : Binds X.K fd ps ds) (hd : Vals dvs ds) (hx : t7 CX X E)
  (ha : PA X (e :: es) t) (hdb : autoParam ((x == ("__debug__" : Str)) = false) cx._auto_1) (he : autoParam (starEach (e :: es) X.env = (false, eval e X.env) :: starEach es X.env) au._auto_1) (hpl : autoParam ((backTo pos (starEach es X.env)).any (·.1) = false) au._auto_1) :
  PE X (.Call (.Name x p) (e :: es) [] pos) (vH sp dvs E t) := by
 intro aa s σ H Q I h;refine wpAny_Call_Name_kw (uX I hg hm ?_ hdb);refine callWith_K (h₀ := X.base) I.ok.mod.kin hk (bq (ha pos aa s σ H _ I h) fun us s1 ⟨vs, H1, I1, r, q⟩ => ⟨I1.kIn, ?_⟩) he hpl;exact BZ F hr hb hd hx I1 r q
end
section
variable {X : Cx} {CX : mv} {k : Nat} {f C : Addr} {fd : FuncData} {ps ks : List Str} {sp : Sp} {E : XK} {x m : Str} {p pos apos kpos : Pos} {e o : Expr} {es : List Expr} {kws : List Keyword} {te ta : TE} {t tk : TA} {nm : Option Str}
variable {g : List Value -> List Value -> List Value} {gV : List V -> List V -> List V}
end
structure aY (N P : List Str) (sc : Scope) : Prop where
 kind : sc.kind = .function
 co : sc.isCoroutine = false
 gen : sc.isGenerator = false
 nd : N.Nodup
 pre : N.take P.length = P
 par : ∀ x ∈ P, sc.names.lookup x = some .local \/ sc.names.lookup x = some .cell
 nofree : ∀ y ∈ sc.names, y.2 ≠ .free
theorem ql {kindOf : Str -> Option NameKind} {x : Str} : ∀ {binds : List (Str × Value)} {m : Str -> Option Value}, (∀ v, (x, v) ∉ binds) -> bindL kindOf binds m x = m x
 | [], _, _ => rfl
 | (n, v) :: r, m, h => by
  unfold bindL;rw [ql fun w hw => h w (List.mem_cons_of_mem _ hw)];split
  ·have : x ≠ n := by rintro rfl; exact h v List.mem_cons_self
   simp [this]
  ·rfl
theorem qo {kindOf : Str -> Option NameKind} {x : Str} : ∀ {binds : List (Str × Value)} {m : Str -> Option Value}, (∀ v, (x, v) ∉ binds) -> bindC kindOf binds m x = m x
 | [], _, _ => rfl
 | (n, v) :: r, m, h => by
  unfold bindC;rw [qo fun w hw => h w (List.mem_cons_of_mem _ hw)];split
  ·rfl
  ·have : x ≠ n := by rintro rfl; exact h v List.mem_cons_self
   simp [this]
theorem qm {kindOf : Str -> Option NameKind} {x : Str} {v : Value} : ∀ {P : List Str} {vs : List Value} {i : Nat} {m : Str -> Option Value}, P.Nodup -> P[i]? = some x -> vs[i]? = some v -> kindOf x = some .local ->
  bindL kindOf (P.zip vs) m x = some v
 | [], _, _, _, _, h, _, _ => by simp at h
 | _ :: _, [], _, _, _, _, h, _ => by simp at h
 | p :: P, w :: vs, 0, m, nd, h1, h2, hk => by
  simp at h1 h2; subst h1; subst h2;show bindL kindOf ((p, w) :: P.zip vs) m p = _;unfold bindL;rw [ql fun v hv => (List.nodup_cons.mp nd).1 (List.of_mem_zip hv).1, if_pos hk];simp
 | p :: P, w :: vs, i + 1, m, nd, h1, h2, hk => by
  show bindL kindOf ((p, w) :: P.zip vs) m x = _;unfold bindL;exact qm (i := i) (List.nodup_cons.mp nd).2 (by simpa using h1) (by simpa using h2) hk
theorem qp {kindOf : Str -> Option NameKind} {x : Str} {v : Value} : ∀ {P : List Str} {vs : List Value} {i : Nat} {m : Str -> Option Value}, P.Nodup -> P[i]? = some x -> vs[i]? = some v -> kindOf x ≠ some .local ->
  bindC kindOf (P.zip vs) m x = some v
 | [], _, _, _, _, h, _, _ => by simp at h
 | _ :: _, [], _, _, _, _, h, _ => by simp at h
 | p :: P, w :: vs, 0, m, nd, h1, h2, hk => by
  simp at h1 h2; subst h1; subst h2;show bindC kindOf ((p, w) :: P.zip vs) m p = _;unfold bindC;rw [qo fun v hv => (List.nodup_cons.mp nd).1 (List.of_mem_zip hv).1, if_neg hk];simp
 | p :: P, w :: vs, i + 1, m, nd, h1, h2, hk => by
  show bindC kindOf ((p, w) :: P.zip vs) m x = _;unfold bindC;exact qp (i := i) (List.nodup_cons.mp nd).2 (by simpa using h1) (by simpa using h2) hk
noncomputable def start (N : List Str) (vs : List V) : St := vs.map some ++ List.replicate (N.length - vs.length) none
noncomputable def nN (CX : mv) (P : Program) (w : World) (K : PySem.W.Frag) (mg : Str -> Option Value) (base : Heap) (N : List Str) (qual : Str) (scope : Scope) (f : Addr) (cd : Value) (A : Around) (outer : List Env) (s : Shared) (H : Hp) (E : XK) : Cx where
 prog := P
 w := w
 K := K
 mg := mg
 base := base
 A := A.deeper (envOfC qual scope s.heap.objs.size f cd)
 N := N
 s₀ := s
 H₀ := H
 env := envOfC qual scope s.heap.objs.size f cd
 outer := outer
 stack := envOfC qual scope s.heap.objs.size f cd :: outer
 ex := []
 calm := true
 fn := fun _ => true
 pn := []
 xe := fun e s' => wpAny (model P w) (A.deeper (envOfC qual scope s.heap.objs.size f cd)) (leaving (envOfC qual scope s.heap.objs.size f cd) e) (fun _ s'' => CX outer H s E e s'') (fun e' s'' => CX outer H s E e' s'') s'
theorem tT {sc : Scope} {n : Nat} {x : Str} (h : sc.names.lookup x = some .cell) : ∃ c, (cellsFrom n sc.names []).lookup x = some c := by
 have q := cellsFrom_some sc.names n [] (.inl h);exact Option.isSome_iff_exists.mp q
theorem xR {CX : mv} {P : Program} {w : World} {K : PySem.W.Frag} {mg : Str -> Option Value} {base : Heap} {N ps : List Str} {qual : Str} {scope : Scope} {f : Addr} {cd : Value} {A : Around} {outer : List Env} {s s1 : Shared} {H : Hp} {E : XK} {us : List Value} {vs : List V}
  (S : aY N ps scope) (hd : A.handled = none) (e0 : ww P w K mg base A outer s H) (hl : vs.length = ps.length) (r : Vals vs us)
  (x : InCallC s s.heap.objs.size (bindL (envOfC qual scope s.heap.objs.size f cd).kindOf (ps.zip us) fun _ => none) (cellsFrom (s.heap.objs.size + 1) scope.names []) (bindC (envOfC qual scope s.heap.objs.size f cd).kindOf (ps.zip us) fun _ => none) s1) :
  Inv (nN CX P w K mg base N qual scope f cd A outer s H E) [] (start N vs) H s1 := by
 have hpl : ps.length <= N.length := by have := congrArg List.length S.pre; rw [List.length_take] at this; omega
 obtain ⟨h1, tk, rfl, hk⟩ := x.done;have noA : ∀ b : Addr, b ∉ (nN CX P w K mg base N qual scope f cd A outer s H E).ex := fun b z => absurd (show b ∈ ([] : List Addr) from z) (by simp)
 refine ⟨⟨e0.mod, S.kind, rfl, rfl, Nat.le_refl _, fun y z c h1 h2 => ?_, fun y hy => ?_, fun y c _ h => ?_, fun _ => hd, Around.frames_deeper e0.frames, .inr ⟨rfl, rfl⟩, fun b z => absurd z (noA b), e0.bs, e0.bsz, fun b _ _ => noA b, fun b z => absurd z (noA b), e0.funs, e0.frf⟩,
  rfl, e0.bare, Un.kept hk, ⟨_, x.toInCall.ns, fun i y v h1 h2 h3 => ?_⟩, fun y c h => ⟨_, x.cell y c h⟩, e0.hok.fresh (Nat.le_refl _), fun y c h => ?_, fun p hp => absurd (show p ∈ ([] : List (Addr × Obj)) from hp) (by simp), e0.hok.kept hk, ?_⟩
 ·exact name_of_addr x.apart (PySem.mem_of_lookup h1) (PySem.mem_of_lookup h2)
 ·have hy : scope.names.lookup y = some .cell \/ scope.names.lookup y = some .free := hy
  rcases hy with hy | hy
  ·exact tT hy
  ·exact absurd rfl (S.nofree _ (PySem.mem_of_lookup hy))
 ·exact Nat.le_of_lt (x.above y c (PySem.mem_of_lookup h))
 ·have hi : i < vs.length := by
   unfold start at h2;by_cases hi : i < vs.length
   ·exact hi
   ·rw [List.getElem?_append_right (by simpa using hi)] at h2
    rw [List.getElem?_replicate] at h2;split at h2 <;> cases h2
  have ha : vs[i]? = some v := by
   unfold start at h2;rw [List.getElem?_append_left (by simpa using hi), List.getElem?_map] at h2;cases e : vs[i]? with
   | none => rw [e] at h2; cases h2
   | some a => rw [e] at h2; cases h2; rfl
  obtain ⟨u, hu, rv⟩ := r.get ha;have hp : ps[i]? = some y := by
   rw [<- S.pre, List.getElem?_take_of_lt oM]; exact h1
  have ndP : ps.Nodup := by rw [<- S.pre]; exact S.nd.sublist (List.take_sublist _ _)
  refine ⟨u, rv, ?_⟩;rcases S.par y (List.mem_of_getElem? hp) with k | k
  ·exact .inl ⟨k, qm ndP hp hu k⟩
  ·obtain ⟨c, e⟩ := tT (n := s.heap.objs.size + 1) k
   refine .inr ⟨.inl k, c, e, ?_⟩;have q := x.cell y c e;rw [qp ndP hp hu (by show scope.names.lookup y ≠ _; rw [k]; decide)] at q;exact q
 ·exact e0.hok.fresh (Nat.le_of_lt (x.above y c (PySem.mem_of_lookup h)))
 ·unfold start
  show _ = N.length;rw [List.length_append, List.length_map, List.length_replicate];omega
theorem ED {CX : mv} {P : Program} {w : World} {K : PySem.W.Frag} {mg : Str -> Option Value} {base : Heap} {k : Nat} {f : Addr} {name qual : Str} {params : Arguments} {body : List Stmt} {scope : Scope} {dV kV doc pm cdv ct oc : Value} {an od : Option Addr}
  {osl : Array (Option Value)} {N ps : List Str} {sp : Sp} (lk : K.lookup f = some ⟨oc, od, .func (fnOf name qual params body scope dV kV doc pm an cdv ct), osl⟩) (hcd : codeIn K cdv qual = true) (S : aY N ps scope)
  (len : ∀ vs H Q E, sp vs H Q E -> vs.length = ps.length)
  (hbody : ∀ (A : Around) (outer : List Env) (s : Shared) (H : Hp) (vs : List V) (Q : VK) (E : XK), Room k (A.deeper (envOfC qual scope s.heap.objs.size f cdv)) -> sp vs H Q E ->
   ∃ t, PSs (nN CX P w K mg base N qual scope f cdv A outer s H E) body t /\ t { nx := fun _ H' => Q .non H', rt := Q } (start N vs) H) :
  bY P w K mg base CX (k + 1) f (fnOf name qual params body scope dV kV doc pm an cdv ct) ps sp := by
 refine ⟨len, fun A outer s H args us vs Q E hr e0 hb r hsp => ?_⟩;have hl := len _ _ _ _ hsp;have KX : K.In s.heap := e0.mod.kin.keeps fun b o e => (e0.bs b o e).1
 have lim : s.heap.NoLimit := e0.mod.nolimit.keeps fun b o e => (e0.bs b o e).1
 have hkind : ∀ y ∈ ps.zip us, scope.names.lookup y.1 = some .local \/ (scope.names.lookup y.1 = some .cell /\ ((cellsFrom (s.heap.objs.size + 1) scope.names []).lookup y.1).isSome = true) := fun hq0 hy => by
  obtain ⟨n, v⟩ := hq0;rcases S.par n (List.of_mem_zip hy).1 with q | q
  ·exact .inl q
  ·exact .inr ⟨q, cellsFrom_some _ _ _ (.inl q)⟩
 refine codeAny_call_function hr.depth (KX _ _ lk) rfl S.co S.gen rfl (codeRec_of KX hcd) (hb _ _ _ _ ?_);refine wpAny_newFunctionEnv_cells S.kind hkind fun env he s1 x => ?_
 subst he;refine ⟨lim.keeps x.toInCall.keep, codeAny_func ?_⟩;obtain ⟨t, ht, hq⟩ := hbody A outer s H vs Q E (hr.deeper _) hsp;have I : Inv (nN CX P w K mg base N qual scope f cdv A outer s H E) [] (start N vs) H s1 := xR S hr.hd e0 hl r x;refine wpAny_mono (ht [] s1 (start N vs) H _ I hq) (fun fl s' hs => ?_) fun e s' hs => hs
 have fin : ∀ {σ' : St} {H' : Hp} {v : V} {u : Value}, Inv (nN CX P w K mg base N qual scope f cdv A outer s H E) [] σ' H' s' -> RelV v u -> Q v H' -> CE outer P w H s Q u s' :=
  fun {σ' H' v u} J rv q => ⟨v, H', J.os, J.bare, J.base, J.hok, rv, q⟩
 cases fl with
 | ret u =>
  obtain ⟨v, σ', H', J, rv, q⟩ := hs;exact fin J rv q
 | next =>
  obtain ⟨σ', H', J, q⟩ := hs;exact fin (v := V.non) (u := Value.none) J rfl q
 | brk =>
  obtain ⟨_, _, _, q⟩ := hs;exact False.elim q
 | cont =>
  obtain ⟨_, _, _, q⟩ := hs;exact False.elim q
section
variable {X : Cx} {x : Str} {p pos : Pos} {e : Expr} {es : List Expr} {t : TA} {id T : String} {r : List V -> Hp -> VK -> Prop}
noncomputable def zM (r : List V -> Hp -> VK -> Prop) (t : TA) : TE := fun σ H Q => t σ H fun vs H1 => r vs H1 Q
theorem sx (hc : CallR X (.builtin id) r) (hg : Gl X x) (hm : X.mg x = none) (hv : bootBuiltins x = some (.builtin id)) (ha : PA X (e :: es) t) (hn : autoParam (x ≠ "__name__") cx._auto_1) (hdb : autoParam ((x == ("__debug__" : Str)) = false) cx._auto_1)
  (he : autoParam (starEach (e :: es) X.env = (false, eval e X.env) :: starEach es X.env) au._auto_1) (hpl : autoParam ((backTo pos (starEach es X.env)).any (·.1) = false) au._auto_1) : PE X (.Call (.Name x p) (e :: es) [] pos) (zM r t) := by
 intro aa s σ H Q I h;refine wpAny_Call_Name_kw (fu I hg hm hv ?_ hn hdb);exact PyProof.Rows.callWith_builtin1 (bq (ha pos aa s σ H _ I h) fun us s1 ⟨vs, H1, I1, r1, q1⟩ => hc aa s1 σ H1 vs us Q I1 r1 q1) he hpl
theorem lA (hc : CallR X (.type T) r) (hg : Gl X x) (hm : X.mg x = none) (hv : bootBuiltins x = some (.type T)) (ha : PA X (e :: es) t) (hn : autoParam (x ≠ "__name__") cx._auto_1) (hdb : autoParam ((x == ("__debug__" : Str)) = false) cx._auto_1)
  (he : autoParam (starEach (e :: es) X.env = (false, eval e X.env) :: starEach es X.env) au._auto_1) (hpl : autoParam ((backTo pos (starEach es X.env)).any (·.1) = false) au._auto_1) : PE X (.Call (.Name x p) (e :: es) [] pos) (zM r t) := by
 intro aa s σ H Q I h;refine wpAny_Call_Name_kw (fu I hg hm hv ?_ hn hdb);exact PyProof.Rows.callWith_type1 (bq (ha pos aa s σ H _ I h) fun us s1 ⟨vs, H1, I1, r1, q1⟩ => hc aa s1 σ H1 vs us Q I1 r1 q1) he hpl
end
end L2
namespace HT
open PySem PyProof.Rows
section
open PySem.SeqAt
open PySem.AutoSeq1 (wpAny_loadPart')
open PySem.MeetsSeq PySem.MeetsSeq2 PySem.MeetsSeq3
end
section
variable {prog : Program} {w : World} {A : Around} {E : Value -> Shared -> Prop} {s : Shared}
noncomputable def sIx (n d : Nat) : Option Int -> Nat
 | none => d
 | some v => if v < 0 then (v + (n : Int)).toNat else min v.toNat n
theorem sIx_none (n d : Nat) : sIx n d none = d := rfl
end
end HT
namespace L2
open PySem PySem.Spec PyProof.Rows
noncomputable abbrev TO := St -> Hp -> (Option Int -> Hp -> Prop) -> Prop
noncomputable def PO (X : Cx) (e : Option Expr) (t : TO) : Prop :=
 ∀ (aa : List (Addr × Obj)) (s : Shared) (σ : St) (H : Hp) (Q : Option Int -> Hp -> Prop), Inv X aa σ H s -> t σ H Q ->
  wpAny (model X.prog X.w) X.A (evalPart e X.env) (fun u s' => ∃ o H', Inv X aa σ H' s' /\ IsPart u o /\ Q o H') X.xe s
noncomputable def Ay : TO := fun _ H Q => Q none H
noncomputable def DH (t : TE) : TO := fun σ H Q => t σ H fun x H1 => ∃ i, x = .int i /\ Q (some i) H1
section
variable {X : Cx} {e : Expr} {te : TE} {lo hi : Option Expr} {tl th : TO} {pos p2 : Pos}
theorem A0 : PO X none Ay := by
 intro aa s σ H Q I h;rw [evalPart_none];exact wpAny_pure ⟨none, H, I, .none, h⟩
theorem AZ (h : PE X e te) : PO X (some e) (DH te) := by
 intro aa s σ H Q I hw;rw [evalPart_some];refine bq (h aa s σ H _ I hw) fun u s1 ⟨x, H1, I1, r1, q1⟩ => ?_
 obtain ⟨i, rfl, q⟩ := q1;obtain ⟨t, rfl⟩ := r1;exact ⟨some i, H1, I1, .int i t, q⟩
noncomputable def Dp (X : Cx) (r : V -> Option Int -> Option Int -> Hp -> VK -> Prop) : Prop :=
 ∀ (aa : List (Addr × Obj)) (s : Shared) (σ : St) (H : Hp) (x : V) (v vl vu : Value) (lo hi : Option Int) (sl : Addr) (Q : VK), Inv X aa σ H s -> RelV x v -> s.heap.IsSliceOf sl vl vu .none -> IsPart vl lo -> IsPart vu hi -> r x lo hi H Q ->
  ∃ T id, typeLookup (.type T) "__getitem__" = pure (some (.builtin id)) /\ s.TypeIs v T /\ wpAny (model X.prog X.w) X.A (getItem v (.ref sl)) (EP X aa σ Q) X.xe s
noncomputable def FP (r : V -> Option Int -> Option Int -> Hp -> VK -> Prop) (te : TE) (tl th : TO) : TE := fun σ H Q => te σ H fun x H1 => tl σ H1 fun l H2 => th σ H2 fun u H3 => r x l u H3 Q
theorem sw {r : V -> Option Int -> Option Int -> Hp -> VK -> Prop} (hr : Dp X r) (he : PE X e te) (hl : PO X lo tl) (hu : PO X hi th) : PE X (.Subscript e (.Slice lo hi none p2) pos) (FP r te tl th) := by
 intro aa s σ H Q I h;refine Subscript_ (bq (he aa s σ H _ I h) fun v s1 ⟨x, H1, I1, r1, q1⟩ => ?_);refine wpAny_Slice (bq (hl aa s1 σ H1 _ I1 q1) fun vl s2 ⟨l, H2, I2, pl, q2⟩ => bq (hu aa s2 σ H2 _ I2 q2) fun vu s3 ⟨u, H3, I3, pu, q3⟩ => ?_);rw [evalPart_none];refine wpAny_pure ?_;have I4 : Inv X aa σ H3 { s3 with heap := s3.heap.push { cls := .type "slice", data := .fields #[vl, vu, .none] } } := I3.kept (t' := s3.toks) fun b ob q => Heap.get?_push_of_some _ q
 obtain ⟨T, id, hT, ht, hg⟩ := hr aa { s3 with heap := s3.heap.push { cls := .type "slice", data := .fields #[vl, vu, .none] } } σ H3 x v vl vu l u s3.heap.objs.size Q I4 r1 (Heap.IsSliceOf.new ..) pl pu q3;show wpAny (model X.prog X.w) X.A (subscriptTail e (.Slice lo hi none p2) v (.ref s3.heap.objs.size)) (EP X aa σ Q) X.xe { s3 with heap := s3.heap.push { cls := .type "slice", data := .fields #[vl, vu, .none] } };exact tail_any (ops := [.ref s3.heap.objs.size, v]) ht hT hg (by with_unfolding_all rfl)
noncomputable def pW (xs : List V) (lo hi : Option Int) : List V := (xs.drop (HT.sIx xs.length 0 lo)).take (HT.sIx xs.length xs.length hi - HT.sIx xs.length 0 lo)
theorem ux (xs : List V) (lo hi : Option Int) : (pW xs lo hi).length <= xs.length := by
 unfold pW;rw [List.length_take, List.length_drop];omega
end
noncomputable def ixN (n : Nat) (i : Int) : Option Nat := if 0 <= i then (if i < n then some i.toNat else none) else if -(n : Int) <= i then some (i + n).toNat else none
noncomputable def atI {α : Type} (xs : List α) (i : Int) : Option α := (ixN xs.length i).bind fun j => xs[j]?
theorem mM {n : Nat} {i : Int} {j : Nat} (h : ixN n i = some j) : seqIndex? i n = some j /\ j < n /\ -(n : Int) <= i /\ i < n := by
 unfold ixN at h;by_cases h0 : 0 <= i
 ·rw [if_pos h0] at h
  by_cases h1 : i < n
  ·rw [if_pos h1] at h
   have e : i.toNat = j := Option.some.inj h;exact ⟨by rw [seqIndex_of h0 h1, e], by omega, by omega, h1⟩
  ·rw [if_neg h1] at h; cases h
 ·rw [if_neg h0] at h
  by_cases h1 : -(n : Int) <= i
  ·rw [if_pos h1] at h
   have e : (i + n).toNat = j := Option.some.inj h;exact ⟨by rw [seqIndex_neg oM h1, e], by omega, h1, by omega⟩
  ·rw [if_neg h1] at h; cases h
theorem mQ {α : Type} {xs : List α} {i : Int} {v : α} (h : atI xs i = some v) : ∃ j, seqIndex? i xs.length = some j /\ xs[j]? = some v /\ j < xs.length /\ -(xs.length : Int) <= i /\ i < xs.length := by
 unfold atI at h;cases e : ixN xs.length i with
 | none => rw [e] at h; cases h
 | some j =>
  rw [e] at h;obtain ⟨h1, h2, h3, h4⟩ := mM e;exact ⟨j, h1, h, h2, h3, h4⟩
theorem atI_nat {α : Type} {xs : List α} {j : Nat} {v : α} (h : xs[j]? = some v) : atI xs (j : Int) = some v := by
 have hj : j < xs.length := (List.getElem?_eq_some_iff.mp h).1;have e : ixN xs.length (j : Int) = some j := by
  unfold ixN;rw [if_pos oM, if_pos oM]; simp
 unfold atI; rw [e]; exact h
theorem atI_last {α : Type} (xs : List α) (v : α) : atI (xs ++ [v]) (-1) = some v := by
 have hl : (xs ++ [v]).length = xs.length + 1 := by simp
 have e : ixN (xs ++ [v]).length (-1) = some xs.length := by
  unfold ixN;rw [hl, if_neg dC, if_pos oM];congr 1;omega
 unfold atI;rw [e];show (xs ++ [v])[xs.length]? = some v;simp
noncomputable def i4 (b : Expr) : Prop := ∀ o i, subscripted b false o i = operate [o, i] (getItem o i)
noncomputable def IxR (X : Cx) (r : R2) : Prop :=
 ∀ (value slice : Expr) (aa : List (Addr × Obj)) (s : Shared) (σ : St) (H : Hp) (x y : V) (v u : Value) (Q : VK), Inv X aa σ H s -> RelV x v -> RelV y u -> r x y H Q ->
  subscripted slice false v u = operate [v, u] (getItem v u) -> wpAny (model X.prog X.w) X.A (subscriptTail value slice v u) (EP X aa σ Q) X.xe s
noncomputable def E3 (X : Cx) (id : String) (r : V -> List V -> Hp -> VK -> Prop) : Prop :=
 ∀ (aa : List (Addr × Obj)) (s : Shared) (σ : St) (H : Hp) (x : V) (xs : List V) (v : Value) (us : List Value) (Q : VK), Inv X aa σ H s -> RelV x v -> Vals xs us -> r x xs H Q ->
  wpAny (model X.prog X.w) X.A (call (.builtin id) (v :: us)) (EP X aa σ Q) X.xe s
section
variable {X : Cx} {a b : Expr} {ta tb : TE} {pos : Pos}
theorem IxR.or {r r' : R2} (h : IxR X r) (h' : IxR X r') : IxR X (fun x y H Q => r x y H Q \/ r' x y H Q) := by
 intro value slice aa s σ H x y v u Q I rx ry q hs;rcases q with q | q
 ·exact h value slice aa s σ H x y v u Q I rx ry q hs
 ·exact h' value slice aa s σ H x y v u Q I rx ry q hs
theorem vX {r : R2} (hr : IxR X r) (ha : PE X a ta) (hb : PE X b tb) (hs : i4 b) : PE X (.Subscript a b pos) (nR r ta tb) := by
 intro aa s σ H Q I h;exact Subscript_ (zz ha hb I h fun v u s2 x y H2 I2 rx ry q => hr a b aa s2 σ H2 x y v u Q I2 rx ry q (hs _ _))
noncomputable def B6 (K : PySem.W.Frag) : R2 := fun x y H Q => ∃ p xs i v, x = .ref p /\ y = .int i /\ cZ K H p xs /\ atI xs i = some v /\ Q v H
noncomputable def B4 (K : PySem.W.Frag) : R2 := fun x y H Q => ∃ p xs i v, x = .ref p /\ y = .int i /\ t6 K H p xs /\ atI xs i = some v /\ Q v H
noncomputable def B5 : R2 := fun x y H Q => ∃ z i c, x = .str z /\ y = .int i /\ z.length <= sizeLine /\ atI z.cps.toList i = some c /\ Q (.str ⟨#[c]⟩) H
theorem ix_list : IxR X (B6 X.K) := by
 intro value slice aa s σ H x y v u Q I rx ry h hs;obtain ⟨p, xs, i, z, rfl, rfl, hq, he, q⟩ := h;cases rx;obtain ⟨t, rfl⟩ := ry;obtain ⟨its, r, pl, hz⟩ := I.list hq;obtain ⟨j, h1, h2, h3, h4, h5⟩ := mQ he;obtain ⟨w, ew, rw'⟩ := r.get h2;have hl := r.length;have hn := jo;have fin : EP X aa σ Q w s := ⟨z, H, I, rw', q⟩;by_cases h0 : 0 <= i
 ·have hj : i.toNat = j := by
   rw [seqIndex_of h0 h5] at h1;exact Option.some.inj h1
  exact item_listR pl.isList h0 oM (by rw [hj]; simpa using ew) fin hs
 ·have hj : (i + (its.toArray.size : Int)).toNat = j := by
   rw [seqIndex_neg oM h4] at h1;rw [List.size_toArray, <- hl];exact Option.some.inj h1
  exact subscriptTail_builtinR (x := w) pl.isList.typeIs slot_list_getitem.lookup
   (wpAny_getItem_list_neg (Q := fun r s' => r = w /\ EP X aa σ Q r s') pl.isList oM (by rw [List.size_toArray] <;> omega) oM (by rw [hj]; simpa using ew) ⟨rfl, fin⟩) hs
theorem ix_tup : IxR X (B4 X.K) := by
 intro value slice aa s σ H x y v u Q I rx ry h hs;obtain ⟨p, xs, i, z, rfl, rfl, hq, he, q⟩ := h;cases rx;obtain ⟨t, rfl⟩ := ry;obtain ⟨its, r, pl, hz⟩ := I.tuple hq;obtain ⟨j, h1, h2, h3, h4, h5⟩ := mQ he;obtain ⟨w, ew, rw'⟩ := r.get h2;have hl := r.length;have hn := jo;have fin : EP X aa σ Q w s := ⟨z, H, I, rw', q⟩;exact subscriptTail_builtinR (x := w) pl.typeIs slot_tuple_getitem.lookup
  (getItem_tuple (j := j) (Q := fun r s' => r = w /\ EP X aa σ Q r s') pl oM oM (by rw [List.size_toArray, <- hl]; exact h1) (by simpa using ew) ⟨rfl, fin⟩) hs
theorem C4 : IxR X B5 := by
 intro value slice aa s σ H x y v u Q I rx ry h hs;obtain ⟨z, i, c, rfl, rfl, hz, he, q⟩ := h;obtain ⟨t, rfl⟩ := rx;obtain ⟨t', rfl⟩ := ry;obtain ⟨j, h1, h2, h3, h4, h5⟩ := mQ he;have hl : z.cps.toList.length = z.length := by simp [Str.length]
 rw [hl] at h1 h4 h5;have hn := jo;exact tail_any (typeIs_str s z t) slot_str_getitem.lookup (getItem_str (c := c) (by
  have e1 : decide (i < -(2 ^ 63 : Int)) = false := decide_eq_false oM;have e2 : decide (i ≥ 2 ^ 63) = false := decide_eq_false oM;rw [e1, e2, Bool.or_false]) (by rw [h1]; simpa using h2) ⟨.str ⟨#[c]⟩, H, I.tok _, ⟨_, rfl⟩, q⟩) hs
noncomputable def EN (K : PySem.W.Frag) : R2 := fun x y H Q => B6 K x y H Q \/ B4 K x y H Q \/ B5 x y H Q
theorem tx : IxR X (EN X.K) := ix_list.or (ix_tup.or C4)
theorem v5 (its : List Value) (n j : Nat) (u : Value) : Obj.mapSeq (·.setIfInBounds j u) { cls := .type "list", data := .seq its.toArray n } = { cls := .type "list", data := .seq (its.set j u).toArray n } := by
 simp [Obj.mapSeq]
theorem Inv.lst {aa : List (Addr × Obj)} {σ : St} {H : Hp} {s : Shared} {p : Addr} {xs : List V} (I : Inv X aa σ H s) (h : H p = some (.lst xs)) :
  ∃ (its : List Value) (n : Nat), Vals xs its /\ s.heap.get? p = some { cls := .type "list", data := .seq its.toArray n } /\ xs.length <= sizeLine := by
 obtain ⟨z, its, n, r, e⟩ := I.hok p _ h;exact ⟨its, n, r, e, z⟩
theorem Inv.lstUpd {aa : List (Addr × Obj)} {σ : St} {H : Hp} {s : Shared} {p : Addr} {xs ys : List V} {its its' : List Value} {n n' : Nat} {f : Obj -> Obj} (I : Inv X aa σ H s) (h : H p = some (.lst xs))
  (ho : s.heap.get? p = some { cls := .type "list", data := .seq its.toArray n }) (hf : f { cls := .type "list", data := .seq its.toArray n } = { cls := .type "list", data := .seq its'.toArray n' }) (r : Vals ys its') (hz : ys.length <= sizeLine) (t : Nat) :
  Inv X aa σ (ay H p (.lst ys)) { s with heap := s.heap.update p f, toks := t } := by
 have e : (s.heap.update p f).get? p = some { cls := .type "list", data := .seq its'.toArray n' } := by
  rw [Heap.get?_update_self f ho (by rw [hf] <;> rfl), hf]
 refine I.write (x := p) (e := p) (by rw [h]; trivial) (.inl rfl) (fun b u hb q => (Heap.get?_update_other _ _ (Ne.symm hb)).trans q) ⟨_, e⟩ ?_;exact ⟨hz, its', n', r, e⟩
noncomputable def DR : V -> V -> V -> Hp -> (Hp -> Prop) -> Prop := fun o i v H Q => ∃ p xs k j, o = .ref p /\ i = .int k /\ H p = some (.lst xs) /\ ixN xs.length k = some j /\ Q (ay H p (.lst (xs.set j v)))
theorem rY : zE X DR := by
 intro aa s σ H o i v ov iv u Q I ro ri rv h;obtain ⟨p, xs, k, j, rfl, rfl, hp, hj, q⟩ := h;cases ro;obtain ⟨t, rfl⟩ := ri;obtain ⟨its, n, r, ho, hz⟩ := I.lst hp;obtain ⟨h1, h2, h3, h4⟩ := mM hj;have hl := r.length;have hn := jo;have I' : Inv X aa σ (ay H p (.lst (xs.set j v))) { s with heap := s.heap.update p (Obj.mapSeq (·.setIfInBounds j u)) } :=
  I.lstUpd hp ho (v5 its n j u) (r.set rv j) (by rw [List.length_set]; exact hz) s.toks
 by_cases h0 : 0 <= k
 ·have hk : k.toNat = j := by
   rw [seqIndex_of h0 h4] at h1;exact Option.some.inj h1
  exact ki_setAt ho h0 oM (by rw [List.size_toArray, <- hl]; exact h4) (by rw [hk]; exact ⟨_, I', q⟩)
 ·have hk : (k + (its.toArray.size : Int)).toNat = j := by
   rw [seqIndex_neg oM h3] at h1;rw [List.size_toArray, <- hl];exact Option.some.inj h1
  exact ki_setBack ho oM (by rw [List.size_toArray, <- hl]; exact h3) oM (by rw [hk]; exact ⟨_, I', q⟩)
theorem rV (lo hi : Option Int) (n : Nat) : (sliceBounds lo hi none n).1 = ((HT.sIx n 0 lo : Nat) : Int) /\ (sliceBounds lo hi none n).2.1 = ((HT.sIx n n hi : Nat) : Int) /\ (sliceBounds lo hi none n).2.2 = 1 := by
 refine ⟨?_, ?_, rfl⟩
 ·cases lo with
  | none => simp [sliceBounds, HT.sIx]
  | some i =>
   simp only [sliceBounds, HT.sIx, Option.getD_none, show (1 : Int) > 0 by decide, if_true];by_cases h : i < 0
   ·simp only [h, if_true] <;> omega
   ·simp only [h, if_false] <;> omega
 ·cases hi with
  | none => simp [sliceBounds, HT.sIx]
  | some i =>
   simp only [sliceBounds, HT.sIx, Option.getD_none, show (1 : Int) > 0 by decide, if_true];by_cases h : i < 0
   ·simp only [h, if_true] <;> omega
   ·simp only [h, if_false] <;> omega
theorem qA (its : List Value) (lo hi : Option Int) : slicePick its.toArray lo hi none = ((its.drop (HT.sIx its.length 0 lo)).take (HT.sIx its.length its.length hi - HT.sIx its.length 0 lo)).toArray := by
 obtain ⟨h1, h2, h3⟩ := rV lo hi its.toArray.size;unfold slicePick;rw [h1, h2, h3];simp only [sliceRange_one, pick_run, List.size_toArray] <;> rfl
noncomputable def Fn (K : PySem.W.Frag) : V -> Option Int -> Option Int -> Hp -> VK -> Prop := fun x lo hi H Q => ∃ a xs, x = .ref a /\ cZ K H a xs /\ ∀ p, H p = none -> Q (.ref p) (ay H p (.lst (pW xs lo hi)))
theorem AC : Dp X (Fn X.K) := by
 intro aa s σ H x v vl vu lo hi sl Q I rx hs pl pu h;obtain ⟨a, xs, rfl, hx, q⟩ := h;cases rx;obtain ⟨its, r, ht, hz⟩ := I.list hx;have hlen := r.length;refine ⟨"list", _, slot_list_getitem.lookup, ht.isList.typeIs, ?_⟩;refine wpAny_getItem_list_slice ht.isList hs pl pu .none (by simp) ?_ (by rw [List.size_toArray] <;> omega);rw [qA, <- hlen];refine ⟨.ref s.heap.objs.size, _, I.laid (t' := s.toks) (o := .lst (pW xs lo hi)) (fun b ob q => Heap.get?_push_of_some _ q) (Nat.le_refl _) ?_, rfl, q _ (I.hok.fresh (Nat.le_refl _))⟩;exact ⟨Nat.le_trans (ux xs lo hi) hz, _, 0, (r.drop (HT.sIx xs.length 0 lo)).take (HT.sIx xs.length xs.length hi - HT.sIx xs.length 0 lo), Heap.get?_push_size _ rfl⟩
theorem call_len_seq : CallR X (.builtin "len") (fun xs H Q => ∃ p ys, xs = [.ref p] /\ (cZ X.K H p ys \/ t6 X.K H p ys) /\ Q (.int ys.length) H) := by
 intro aa s σ H xs us Q I r h;obtain ⟨p, ys, rfl, hq, q⟩ := h;obtain ⟨u, rfl, rx⟩ := iL r;cases rx;have hn := jo;rcases hq with hq | hq
 ·obtain ⟨its, r', pl, hz⟩ := I.list hq
  have hlen := r'.length;exact Calls.call_len_list pl.isList (by simp only [List.size_toArray] <;> omega) ⟨.int ys.length, H, I.tok _, ⟨s.toks + 1, by rw [List.size_toArray, hlen]⟩, q⟩
 ·obtain ⟨its, r', pl, hz⟩ := I.tuple hq
  have hlen := r'.length;exact len_tuple pl (by simp only [List.size_toArray] <;> omega) ⟨.int ys.length, H, I.tok _, ⟨s.toks + 1, by rw [List.size_toArray, hlen]⟩, q⟩
theorem tV : CallR X (.builtin "len") (fun xs H Q => ∃ z, xs = [.str z] /\ z.length <= sizeLine /\ Q (.int z.length) H) := by
 intro aa s σ H xs us Q I r h;obtain ⟨z, rfl, hz, q⟩ := h;obtain ⟨u, rfl, t, rfl⟩ := iL r;have hn := jo;exact len_str oM ⟨.int z.length, H, I.tok _, ⟨_, rfl⟩, q⟩
theorem CallR.or {f : Value} {r r' : List V -> Hp -> VK -> Prop} (h : CallR X f r) (h' : CallR X f r') : CallR X f (fun xs H Q => r xs H Q \/ r' xs H Q) := by
 intro aa s σ H xs us Q I rs q;rcases q with q | q
 ·exact h aa s σ H xs us Q I rs q
 ·exact h' aa s σ H xs us Q I rs q
noncomputable def BN (K : PySem.W.Frag) (T : String) (x : V) (H : Hp) : Prop := match x with
 | .str _ => T = "str"
 | .int _ => T = "int"
 | .ref p => (T = "list" /\ ∃ xs, cZ K H p xs) \/ (T = "tuple" /\ ∃ o, K.lookup p = some o /\ o.cls = .type "tuple" /\ o.dict = none) \/
   (T = "dict" /\ ((∃ kvs, H p = some (.dK kvs)) \/ ∃ kvs, H p = some (.dT kvs))) \/ (T = "set" /\ ∃ S n, H p = some (.set S n))
 | _ => False
theorem wE {aa : List (Addr × Obj)} {σ : St} {H : Hp} {s : Shared} {T : String} {x : V} {v : Value} (I : Inv X aa σ H s) (r : RelV x v) (ty : BN X.K T x H) :
  s.TypeIs v T /\ ∀ a, v = .ref a -> ∃ ob, s.heap.get? a = some ob /\ ob.dict = none := by
 cases x with
 | str z =>
  obtain ⟨t, rfl⟩ := r;cases (show T = "str" from ty);exact ⟨typeIs_str s z t, fun _ e => nomatch e⟩
 | int i =>
  obtain ⟨t, rfl⟩ := r;cases (show T = "int" from ty);exact ⟨typeIs_int s i t, fun _ e => nomatch e⟩
 | ref p =>
  cases r;rcases ty with ⟨rfl, xs, hq⟩ | ⟨rfl, o, hk, hc, hd⟩ | ⟨rfl, hk⟩ | ⟨rfl, S, n, hk⟩
  ·obtain ⟨its, _, pl, _⟩ := I.list hq
   refine ⟨pl.isList.typeIs, fun a e => ?_⟩;cases e;obtain ⟨o, n, e, c, hd, _⟩ := pl;exact ⟨o, e, hd⟩
  ·refine ⟨⟨o, I.kIn p o hk, hc⟩, fun a e => ?_⟩
   cases e;exact ⟨o, I.kIn _ o hk, hd⟩
  ·have z : ∃ o, s.heap.get? p = some o /\ o.ExactDict := by
    rcases hk with ⟨kvs, hk⟩ | ⟨kvs, hk⟩
    ·obtain ⟨_, _, _, _, o, _, _, e, ex, _⟩ := I.hok p _ hk
     exact ⟨o, e, ex⟩
    ·obtain ⟨_, _, _, _, o, _, _, e, ex, _⟩ := I.hok p _ hk
     exact ⟨o, e, ex⟩
   obtain ⟨o, e, ex⟩ := z;refine ⟨⟨o, e, ex.1⟩, fun a e2 => ?_⟩;cases e2;exact ⟨o, e, ex.2.1⟩
  ·obtain ⟨o, _, _, _, e, ex, _⟩ := I.hok p _ hk
   refine ⟨⟨o, e, ex.1⟩, fun a e2 => ?_⟩;cases e2;exact ⟨o, e, ex.2.1⟩
 | _ => exact False.elim ty
noncomputable def Fg (K : PySem.W.Frag) (T : String) (r : V -> List V -> Hp -> VK -> Prop) (to : TE) : TE := fun σ H Q => to σ H fun x H1 => BN K T x H1 /\ r x [] H1 Q
noncomputable def FV (K : PySem.W.Frag) (T : String) (r : V -> List V -> Hp -> VK -> Prop) (to : TE) (t : TA) : TE := fun σ H Q => to σ H fun x H1 => BN K T x H1 /\ t σ H1 fun xs H2 => r x xs H2 Q
variable {o e : Expr} {es : List Expr} {to : TE} {t : TA} {name : Str} {apos cpos : Pos} {T id : String} {r : V -> List V -> Hp -> VK -> Prop}
theorem Cu (pa : PlainAttrs T) (slot : Slot T name id) (hty : typeOf (.builtin id) = pure (.type "method_descriptor")) (hm : E3 X id r) (ho : PE X o to)
  (hbase : autoParam (attributeBase o name X.env (eval o X.env) = eval o X.env) au._auto_1) (hline : autoParam ((apos.endLine == cpos.line) = true) au._auto_1) : PE X (.Call (.Attribute o name apos) [] [] cpos) (Fg X.K T r to) := by
 intro aa s σ H Q I h;refine wpAny_Call_method0_late hbase hline (bq (ho aa s σ H _ I h) fun v s1 ⟨x, H1, I1, r1, ty, q1⟩ => ?_);obtain ⟨h1, h2⟩ := wE I1 r1 ty;exact ⟨T, id, pa, slot, hty, h1, h2, Calls.callWith_builtin rfl (PySem.evalArgs_none (hm aa s1 σ H1 x [] v [] Q I1 r1 .nil q1))⟩
theorem mF (pa : PlainAttrs T) (slot : Slot T name id) (hty : typeOf (.builtin id) = pure (.type "method_descriptor")) (hm : E3 X id r) (ho : PE X o to) (ha : PA X (e :: es) t)
  (hbase : autoParam (attributeBase o name X.env (eval o X.env) = eval o X.env) au._auto_1)
  (hfew : autoParam (((backTo cpos (starEach (e :: es) X.env)).all (fun x => !x.1) && (backToKw cpos (keywordEach [] X.env)).all (fun x => x.1.isSome)
   && decide ((e :: es).length + ([] : List Keyword).length + (if ([] : List Keyword).isEmpty then 0 else 1) < 30)) = true) au._auto_1)
  (hline : autoParam ((apos.endLine == cpos.line) = true) au._auto_1) (hs : autoParam (starEach (e :: es) X.env = (false, eval e X.env) :: starEach es X.env) au._auto_1) (hplain : autoParam ((backTo cpos (starEach es X.env)).any (·.1) = false) au._auto_1) :
  PE X (.Call (.Attribute o name apos) (e :: es) [] cpos) (FV X.K T r to t) := by
 intro aa s σ H Q I h;refine wpAny_Call_method_late hbase hfew hline rfl (bq (ho aa s σ H _ I h) fun v s1 ⟨x, H1, I1, r1, ty, q1⟩ => ?_);obtain ⟨h1, h2⟩ := wE I1 r1 ty;refine ⟨T, id, pa, slot, hty, h1, h2, ?_⟩;have hA := ha cpos aa s1 σ H1 _ I1 q1;rw [hs] at hA ⊢;refine Calls.callWith_builtin (by show (false || (backTo cpos (starEach es X.env)).any (·.1)) = false; rw [hplain] <;> rfl) (Calls.evalArgs_plain ?_);exact bq hA fun us s2 ⟨vs, H2, I2, r2, q2⟩ => hm aa s2 σ H2 x vs v us Q I2 r1 r2 q2
end
noncomputable def uc (X : Cx) (id : String) (r : V -> List V -> Hp -> VK -> Prop) : Prop :=
 ∀ (aa : List (Addr × Obj)) (s : Shared) (σ : St) (H : Hp) (x : V) (xs : List V) (v : Value) (us : List Value) (Q : VK), Inv X aa σ H s -> RelV x v -> Vals xs us -> r x xs H Q ->
  wpAny (model X.prog X.w) X.A (call (.builtin id) (v :: us)) (EP X aa σ Q) X.xe s
theorem Vals.one {x : V} {us : List Value} (h : Vals [x] us) : ∃ u, us = [u] /\ RelV x u := by
 cases h with
 | cons r h => cases h; exact ⟨_, rfl, r⟩
theorem Vals.zero : ∀ {us : List Value}, Vals [] us -> us = []
 | _, .nil => rfl
theorem Vals.dropLast {xs : List V} {us : List Value} (h : Vals xs us) : Vals xs.dropLast us.dropLast := by
 induction h with
 | nil => exact .nil
 | cons r t ih =>
  cases t with
  | nil => exact .nil
  | cons q t' => exact .cons r ih
theorem Vals.rep {xs : List V} {us : List Value} (h : Vals xs us) : ∀ k : Nat, Vals (List.replicate k xs).flatten (List.replicate k us).flatten
 | 0 => .nil
 | k + 1 => by
  rw [List.replicate_succ, List.replicate_succ, List.flatten_cons, List.flatten_cons];exact Vals.append h (Vals.rep h k)
theorem wn {α : Type} (l : List α) : l.eraseIdx (l.length - 1) = l.dropLast := by
 induction l with
 | nil => rfl
 | cons a r ih =>
  cases r with
  | nil => rfl
  | cons b r =>
   have e : (a :: b :: r).length - 1 = ((b :: r).length - 1) + 1 := by
    have h1 : (a :: b :: r).length = r.length + 2 := rfl;have h2 : (b :: r).length = r.length + 1 := rfl;omega
   rw [e, List.eraseIdx_cons_succ, ih]
   all_goals rfl
theorem qh (its : List Value) : ∀ (k : Nat) (acc : List Value),
  List.foldl (fun x1 x2 => x1 ++ x2) acc.toArray (List.replicate k its.toArray) = (acc ++ (List.replicate k its).flatten).toArray
 | 0, acc => by simp
 | k + 1, acc => by
  have e : acc.toArray ++ its.toArray = (acc ++ its).toArray := by simp
  have e2 : (acc ++ its) ++ (List.replicate k its).flatten = acc ++ (List.replicate (k + 1) its).flatten := by
   rw [List.replicate_succ, List.flatten_cons, List.append_assoc]
  rw [<- e2, <- qh its k (acc ++ its), <- e, List.replicate_succ, List.foldl_cons]
section
variable {X : Cx} {aa : List (Addr × Obj)} {σ : St} {H : Hp} {s : Shared} {l b : Addr} {xs ys zs : List V}
theorem Inv.lset {its its' : List Value} {n : Nat} {f : Array Value -> Array Value} {t' : Nat} (I : Inv X aa σ H s) (hH : H l = some (.lst xs))
  (e : s.heap.get? l = some { cls := .type "list", data := .seq its.toArray n }) (hf : f its.toArray = its'.toArray) (hv : Vals ys its') (hz : ys.length <= sizeLine) :
  Inv X aa σ (ay H l (.lst ys)) { s with heap := s.heap.update l (Obj.mapSeq f), toks := t' } := by
 have q := PySem.IsL.update e f;rw [hf] at q;refine I.write (x := l) (e := l) (by rw [hH]; exact trivial) (.inl rfl) (fun b' u hb hu => (Heap.get?_update_other s.heap (Obj.mapSeq f) (Ne.symm hb)).trans hu) ⟨_, q⟩ ?_;exact ⟨hz, its', _, hv, q⟩
theorem Inv.lnew {its : List Value} {t' : Nat} (I : Inv X aa σ H s) (hv : Vals ys its) (hz : ys.length <= sizeLine) :
  Inv X aa σ (ay H s.heap.objs.size (.lst ys)) { s with heap := s.heap.push { cls := .type "list", data := .seq its.toArray }, toks := t' } :=
 I.laid (fun _ _ q => Heap.get?_push_of_some _ q) (Nat.le_refl _) ⟨hz, its, 0, hv, Heap.get?_push_size _ rfl⟩
theorem Inv.fresh (I : Inv X aa σ H s) : H s.heap.objs.size = none := I.hok.fresh (Nat.le_refl _)
theorem Inv.lstM (I : Inv X aa σ H s) (hH : H l = some (.lst xs)) : xs.length <= sizeLine /\ ∃ (its : List Value) (n : Nat), Vals xs its /\ xs.length = its.length /\ s.heap.get? l = some { cls := .type "list", data := .seq its.toArray n } := by
 obtain ⟨z, its, n, r, e⟩ := I.hok l _ hH;exact ⟨z, its, n, r, r.length, e⟩
theorem y1 {n : Nat} (h : n <= sizeLine) : Builtin.List.listTooLong n = false := by
 unfold Builtin.List.listTooLong;exact decide_eq_false oM
end
section
variable {X : Cx}
noncomputable def AK : V -> List V -> Hp -> VK -> Prop := fun x vs H Q => ∃ l xs y, x = .ref l /\ vs = [y] /\ H l = some (.lst xs) /\ xs.length < sizeLine /\ Q .non (ay H l (.lst (xs ++ [y])))
theorem lD : uc X "list.append" AK := by
 intro aa s σ H x vs v us Q I rx rv h;obtain ⟨l, xs, y, rfl, rfl, hH, hz, q⟩ := h;cases rx;obtain ⟨u, rfl, ru⟩ := rv.one;obtain ⟨z, its, n, r, hl, e⟩ := I.lstM hH;refine call_meets F.slot_list_append ⟨_, e, rfl⟩ F.entry_list_append (F.args_list_append_2 _ _) (PySem.list_append l its.toArray n u (by rw [List.size_toArray]; omega)) ⟨e, ?_⟩;refine ⟨.non, _, I.lset (its' := its ++ [u]) hH e (by simp) (r.append (.cons ru .nil)) ?_, rfl, q⟩;rw [List.length_append, List.length_singleton];omega
noncomputable def Fp : V -> List V -> Hp -> VK -> Prop := fun x vs H Q => ∃ l xs y, x = .ref l /\ vs = [] /\ H l = some (.lst xs) /\ xs[xs.length - 1]? = some y /\ Q y (ay H l (.lst xs.dropLast))
theorem Gm : uc X "list.pop" Fp := by
 intro aa s σ H x vs v us Q I rx rv h;obtain ⟨l, xs, y, rfl, rfl, hH, hy, q⟩ := h;cases rx;have hus := rv.zero;subst hus;obtain ⟨z, its, n, r, hl, e⟩ := I.lstM hH;obtain ⟨u, hu, ru⟩ := r.get hy;have hy' : its.toArray[its.toArray.size - 1]? = some u := by
  show its.toArray[its.length - 1]? = some u;rw [<- Array.getElem?_toList, <- hl];exact hu
 refine call_meets F.slot_list_pop ⟨_, e, rfl⟩ F.entry_list_pop (F.args_list_pop_1 _) (MeetsSeq.list_pop_last l its.toArray n u hy' (by rw [List.size_toArray]; omega)) ⟨e, ?_⟩;refine ⟨y, _, I.lset (its' := its.dropLast) hH e ?_ r.dropLast ?_, ru, q⟩
 ·show its.toArray.eraseIdxIfInBounds (its.toArray.size - 1) = its.dropLast.toArray
  rw [List.size_toArray, List.eraseIdxIfInBounds_toArray, wn]
 ·rw [List.length_dropLast]
  omega
noncomputable def B7 : V -> List V -> Hp -> VK -> Prop := fun x vs H Q => ∃ l xs, x = .ref l /\ vs = [] /\ H l = some (.lst xs) /\ Q .non (ay H l (.lst []))
theorem y7 : uc X "list.clear" B7 := by
 intro aa s σ H x vs v us Q I rx rv h;obtain ⟨l, xs, rfl, rfl, hH, q⟩ := h;cases rx;have hus := rv.zero;subst hus;obtain ⟨z, its, n, r, hl, e⟩ := I.lstM hH;refine call_meets F.slot_list_clear ⟨_, e, rfl⟩ F.entry_list_clear (F.args_list_clear_1 _) (AutoSeq1.list_clear_list_0 l its.toArray n (by rw [List.size_toArray]; omega)) ⟨e, ?_⟩;exact ⟨.non, _, I.lset (its' := []) (ys := []) hH e rfl .nil (Nat.zero_le _), rfl, q⟩
noncomputable def Fo : R2 := fun x y H Q => ∃ l k xs, x = .ref l /\ y = .int k /\ H l = some (.lst xs) /\ -(2 ^ 63) <= k /\ k < 2 ^ 63 /\ xs.length * k.toNat <= sizeLine /\
 ∀ p, H p = none -> Q (.ref p) (ay H p (.lst (List.replicate k.toNat xs).flatten))
theorem Bk {α : Type} (xs : List α) (k : Nat) : (List.replicate k xs).flatten.length = k * xs.length := by
 induction k with
 | zero => simp
 | succ k ih => rw [List.replicate_succ, List.flatten_cons, List.length_append, ih, Nat.succ_mul, Nat.add_comm]
theorem Cz : em X (binaryOp .Mult) Fo := by
 intro aa s σ H x y v u Q I rx ry h;obtain ⟨l, k, xs, rfl, rfl, hH, h1, h2, hz, q⟩ := h;cases rx;obtain ⟨t, rfl⟩ := ry;obtain ⟨z, its, n, r, hl, e⟩ := I.lstM hH;have hlen : its.toArray.size * k.toNat <= sizeLine := by rw [List.size_toArray, <- hl]; exact hz
 have hcap : ¬ its.toArray.size * k.toNat > (2 ^ 63 - 1) / 8 := by
  have : (sizeLine : Nat) <= (2 ^ 63 - 1) / 8 := by decide
  omega
 have hfit : ¬ (!Builtin.List.listFitsIndex k) = true := by
  rw [fitsIndex_both h1 h2];exact Bool.false_ne_true
 have hlong : ¬ Builtin.List.listTooLong (its.toArray.size * k.toNat) = true := by
  rw [y1 hlen];exact Bool.false_ne_true
 have hnew : List.foldl (fun x1 x2 => x1 ++ x2) #[] (List.replicate (if its.toArray.isEmpty = true then 0 else k.toNat) its.toArray) = (List.replicate k.toNat its).flatten.toArray := by
  have f0 : ∀ m : Nat, List.foldl (fun x1 x2 => x1 ++ x2) #[] (List.replicate m its.toArray) = (List.replicate m its).flatten.toArray := fun m => by
   have := qh its m []
   rw [List.nil_append] at this;exact this
  rw [f0];cases its with
  | nil => simp
  | cons a r' => rw [if_neg (by simp)]
 refine wpAny_binaryOp_repeat_ref (T := "list") (U := "int") dC ⟨_, e, rfl⟩ (fun s' => typeIs_int s' k t) noFill_list_mul F.fills_int_mul F.slot_int_rmul repeat_list F.slot_int_index.lookup
  (call_meets F.slot_int_rmul (typeIs_int s k t) F.entry_int_rmul (F.args_int_rmul_2 _ _) (int___rmul___int_list k t l its.toArray n)
   ⟨e, rfl, ⟨_, e, rfl⟩, call_meets F.slot_list_mul ⟨_, e, rfl⟩ F.entry_list_mul (F.args_list_mul_2 _ _) (AutoListH.list___mul___list_int_3 l its.toArray n k t hfit hcap hlong) ⟨e, ?_⟩⟩)
 rw [hnew];exact ⟨.ref _, _, I.lnew (t' := s.toks) (r.rep k.toNat) (by rw [Bk, Nat.mul_comm]; exact hz), rfl, q _ I.fresh⟩
end
section
variable {prog : Program} {w : World} {A : Around} {E : Value -> Shared -> Prop} {s : Shared}
end
section
variable {X : Cx}
end
end L2
namespace Att
open PySem PySem.W PySem.Calls PyProof.Rows
theorem oh {P : Params} {h : Heap} : ∀ (ns : List Int) (vs : List Value), WellAll P h vs (ns.map WData.int) -> IntsAre vs ns := by
 intro ns
 induction ns with
 | nil =>
  intro vs w;rw [List.map_nil] at w;cases w;exact .nil
 | cons n ns ih =>
  intro vs w;rw [List.map_cons] at w;cases w with
  | cons a b =>
   cases a;exact .cons _ _ (ih _ b)
theorem wN {l : OpenLaw} {n : Nat} (hn : l.most = some n) {P : Params} {h : Heap} {args : List WData} {vals : List Value}
  (hpre : l.row.toRowW.claim.pre args = true) (hwl : WellAll P h vals args) :
  ∃ a vs ns, vals = [Value.ref a] /\ args = [WData.list (ns.map WData.int)] /\ h.get? a = some { cls := .type "list", data := .seq vs.toArray } /\ IntsAre vs ns /\ ns.length <= n := by
 have hsh : WShape.hasAll [] args [.list .int] = true := (pre_splitW hpre).1;have hc : l.pre.holds [] { args := args } = true := (pre_splitW hpre).2;obtain ⟨d, r, rfl, h1, h2⟩ := hasAllW_cons hsh;obtain rfl := hasAllW_nil h2;obtain ⟨xs, rfl, h3⟩ := hasW_list h1;obtain ⟨ns, rfl⟩ := items_int h3;have hlen : ns.length <= n := by
  unfold OpenLaw.pre at hc;have h4 : (WTm.not (.lt (.lit (.int (n : Int))) (.len (.arg 0)))).holds [] { args := [.list (ns.map .int)] } = true := by
   have h4 := (holds_andW hc).1;rw [hn] at h4;exact h4
  have h5 := condW_of h4 (w_not (w_lt w_lit (w_len_list (w_arg rfl))));rw [List.length_map] at h5;refine Nat.le_of_not_lt fun q => ?_
  have q' : (n : Int) < ((ns.length : Nat) : Int) := by omega
  first
   | (rw [decide_eq_true q'] at h5; exact absurd h5 dC)
   | (simp at h5; omega)
 cases hwl with
 | cons w1 w2 =>
  cases w2;cases w1 with
  | list ho hall => exact ⟨_, _, ns, rfl, rfl, ho, oh ns _ hall, hlen⟩
theorem xi (l : OpenLaw) (args : List WData) : l.row.toRowW.claim.post args (.bool true) args = true :=
 postW_of (r := l.row.toRowW) (X := (true == true))
  (show WShape.has [] (.bool true) .bool = true by first | rfl | decide | simp [WShape.has, WShape.arms, WShape.armsAll])
  (show (WTm.eq .res (.lit (.bool true))).value [] { args := args, res := some (.bool true), after := args } = some (.bool (true == true)) from w_eq_bool (w_res rfl) w_lit) rfl
theorem attach_call {l : OpenLaw} {n : Nat} {q : Program} {loose : List Str} {XP : (Str -> Option Value) -> Heap -> Prop} {YP : World -> Heap -> Prop} {d : DefRec}
  (hn : l.most = some n) (hdf : d.params.defaults = [])
  (call : ∀ (w : World) (s₀ s₁ : Shared) (mg mb : Str -> Option Value) (fa : Addr) (o : Obj) (pm cd doc : Value) (a : Addr) (vs : List Value) (ns : List Int),
   Ground q loose [] XP w s₀ mg mb s₁.heap -> YP w s₁.heap ->
   s₁.heap.get? fa = some o -> o.data = .func (docDef d.name d.params d.body d.scope pm cd doc) -> s₁.heap.CodeRec cd d.name -> mg d.name = some (.ref fa) ->
   s₁.heap.get? a = some { cls := .type "list", data := .seq vs.toArray } -> IntsAre vs ns -> ns.length <= n -> s₁.gens = #[] ->
   codeAny (model l.prog w) callerA (.call (.ref fa) ⟨[.ref a], []⟩) (fun r s' => r = .ok (.ret (.bool true)) /\ OldK s₁.heap s'.heap /\ s'.os = s₁.os /\ AllBare s'.gens) s₁) :
  WalkO q loose XP YP l.row.toRowW d [] (fun f vs => PySem.call f vs) := by
 intro w s₀ s₁ mg mb G Y fa o pm cd doc dV kV ho hd hcd hD hmg hg args vals as hpre hlay hrd hwl hlo;obtain rfl : dV = .none := Dflts.none hD hdf;obtain rfl : kV = .none := Dflts.noKw hD;obtain ⟨a, vs, ns, rfl, rfl, hobj, hints, hlen⟩ := wN hn hpre hwl;refine enter_call (codeAny_mono (call w s₀ s₁ mg mb fa o pm cd doc a vs ns G Y ho (fd_plain hd) hcd hmg hobj hints hlen hg) fun r s' hq => ?_);obtain ⟨rfl, h2, h3, h4⟩ := hq;exact ⟨.inl ⟨.bool true, .bool true, [], rfl, fun _ => rfl, .bool true, xi l _, fun _ => ⟨List.Pairwise.nil, fun _ hm => (nomatch hm)⟩⟩, h2, h3, h4⟩
section
variable {prog : Program} {w : World} {A : Around} {E : Value -> Shared -> Prop} {s : Shared} {K : Frag}
end
end Att
namespace L2
open PySem PySem.Spec PyProof.Rows
theorem wD : ∀ {vs : List Value} {ns : List Int}, IntsAre vs ns -> Vals (ns.map V.int) vs := by
 intro vs ns h
 induction h with
 | nil => exact .nil
 | cons n t h ih => exact .cons ⟨t, rfl⟩ ih
noncomputable def zF (H : Hp) : Prop := ∀ b, H b = none \/ ∃ o xs, H b = some (.frz o (.lst xs))
theorem za {P : Program} {w : World} {K : PySem.W.Frag} {mg mb : Str -> Option Value} {CX : mv} {k : Nat} {fa a : Addr} {fd : FuncData} {x : Str} {sp : Sp} {s₁ : Shared} {vs : List Value} {ns : List Int}
  (KX : K.In s₁.heap) (hns : s₁.heap.Ns mainGlobals mg) (hb : s₁.heap.Ns builtinsNs mb) (hbb : ∀ x : Str, x ≠ "__name__" -> mb x = bootBuiltins x) (hlim : s₁.heap.NoLimit) (hg : s₁.gens = #[])
  (ha : s₁.heap.get? a = some { cls := .type "list", data := .seq vs.toArray }) (hi : IntsAre vs ns) (hl : ns.length <= sizeLine) (hr : Room k callerA)
  (F : ∀ base : Heap, K.In base -> base.Ns mainGlobals mg -> bY P w K mg base CX k fa fd [x] sp) (hbind : ∀ (s : Shared) (u : Value), BindsTo s fd ⟨[u], []⟩ [(x, u)])
  (hsp : ∀ H : Hp, zF H -> cZ K H a (ns.map V.int) -> sp [.ref a] H (fun v _ => v = .bl true) fun _ _ _ => False)
  (hCX : ∀ H e s', CX [] H s₁ (fun _ _ _ => False) e s' -> False) :
  codeAny (model P w) callerA (.call (.ref fa) ⟨[.ref a], []⟩) (fun r s' => r = .ok (.ret (.bool true)) /\ OldK s₁.heap s'.heap /\ s'.os = s₁.os /\ AllBare s'.gens) s₁ := by
 have rv := wD hi;have lenV := hi.length
 -- from an abstract heap in which nothing but the script may be tracked
 have core : ∀ H : Hp, zF H -> cZ K H a (ns.map V.int) -> HOk P w H s₁.heap -> (∀ b, H b ≠ none -> b = a) -> (H a ≠ none -> K.lookup a = none) ->
   codeAny (model P w) callerA (.call (.ref fa) ⟨[.ref a], []⟩) (fun r s' => r = .ok (.ret (.bool true)) /\ OldK s₁.heap s'.heap /\ s'.os = s₁.os /\ AllBare s'.gens) s₁ := by
  intro H hO hS hok hA hK;have base_of : ∀ {b : Addr} {o : Obj}, s₁.heap.get? b = some o -> H b = none -> (kN s₁.heap H).get? b = some o := fun e n => zk e n
  have noA : ∀ {b : Addr} {o : Obj} {es : Array DictEntry} {ep : Nat}, s₁.heap.get? b = some o -> o.data = .dict es ep -> H b = none := fun {b o es ep} e d => by
   cases q : H b with
   | none => rfl
   | some u =>
    have e' : b = a := hA b (by rw [q]; simp);subst e';rw [ha] at e; cases e;have d' : Data.seq vs.toArray _ = Data.dict es ep := d;cases d'
  have nsK : ∀ {b : Addr} {m : Str -> Option Value}, s₁.heap.Ns b m -> (kN s₁.heap H).Ns b m := fun {b m} ⟨o, es, ep, e, d, r⟩ => ⟨o, es, ep, base_of e (noA e d), d, r⟩
  have hKb : K.In (kN s₁.heap H) := fun b o e => base_of (KX b o e) (by
   cases q : H b with
   | none => rfl
   | some u =>
    have e' : b = a := hA b (by rw [q]; simp);subst e';rw [hK (by rw [q]; simp)] at e; cases e)
  have hM : Mod K mg (kN s₁.heap H) := ⟨hKb, nsK hns, ⟨mb, nsK hb, hbb⟩, let ⟨mc, h1, h2⟩ := hlim; ⟨mc, nsK h1, h2⟩⟩;have e0 : ww P w K mg (kN s₁.heap H) callerA [] s₁ H := ⟨rfl, hM, fun b o e => Bb e, Nat.le_of_eq (xU _ _), trivial, fun b hb => absurd (show b ∈ ([] : List Addr) from hb) (by simp), hok, .of_eq hg⟩;refine codeAny_mono ((F _ hKb (nsK hns)).run callerA [] s₁ H ⟨[.ref a], []⟩ [.ref a] [.ref a] _ _ hr e0 (hbind s₁ (.ref a)) (.cons rfl .nil) (hsp H hO hS)) fun r s' h => ?_
  cases r with
  | error e => exact (hCX H e s' h).elim
  | ok fl =>
   cases fl with
   | next => exact False.elim h
   | brk => exact False.elim h
   | cont => exact False.elim h
   | ret u =>
    obtain ⟨v, H', os, bare, un, hok', r', q⟩ := h;have q' : v = .bl true := q;subst q';obtain rfl : u = Value.bool true := r';refine ⟨rfl, OldK.of_keep fun b o e => ?_, os, bare⟩;cases q : H b with
    | none => exact un.keep b o e q (by intro z; exact absurd (show b ∈ ([] : List Addr) from z) (by simp)) (by simp)
    | some u =>
     rcases hO b with z | ⟨ob, xs, z⟩
     ·rw [q] at z; cases z
     ·have z2 := un.frzs b ob _ z
      obtain ⟨e1, _⟩ := hok b _ z;obtain ⟨e2, _⟩ := hok' b _ z2;rw [e] at e1; cases e1;exact e2
 cases hk : K.lookup a with
 | some o =>
  -- the script is one of the module's own objects
  have e := KX a o hk;rw [ha] at e;cases e;refine core (fun _ => none) (fun _ => .inl rfl) (.inr ⟨_, vs.toArray, _, hk, rfl, rfl, rfl, by rw [List.size_toArray, lenV]; exact hl, by simpa using rv⟩) (fun b u z => by have z' : (none : Option HO) = some u := z; cases z') (fun b z => absurd rfl z) fun z => absurd rfl z
 | none =>
  refine core (fun b => if b = a then some (.frz { cls := .type "list", data := .seq vs.toArray } (.lst (ns.map V.int))) else none) (fun b => ?_) (.inl (.inr ⟨{ cls := .type "list", data := .seq vs.toArray }, if_pos rfl⟩)) (fun b u z => ?_) (fun b z => ?_) fun _ => hk
  ·by_cases hb : b = a
   ·exact .inr ⟨_, _, if_pos hb⟩
   ·exact .inl (if_neg hb)
  ·by_cases hb : b = a
   ·have z' := (if_pos hb).symm.trans z
    cases z';subst hb;exact ⟨ha, by rw [List.length_map]; exact hl, vs, _, rv, ha⟩
   ·have z' := (if_neg hb).symm.trans z
    cases z'
  ·by_cases hb : b = a
   ·exact hb
   ·exact absurd (if_neg hb) z
noncomputable abbrev Gy {K : PySem.W.Frag} {h : Heap} (_ : K.In h) : PySem.W.Frag := K
theorem walk_of {l : PySem.W.OpenLaw} {n k : Nat} {q : Program} {loose : List Str} {XP : (Str -> Option Value) -> Heap -> Prop} {YP : World -> Heap -> Prop} {d : DefRec} {K : Params -> PySem.W.Frag} {CX : World -> mv} {sp : World -> Sp} {x : Str}
  (hn : l.most = some n) (hn2 : n <= sizeLine) (hdf : d.params.defaults = []) (hr : Room k callerA)
  (hY : ∀ (w : World) (h : Heap), YP w h -> (K w.params).In h)
  (F : ∀ (w : World) (mg : Str -> Option Value) (fa : Addr) (h : Heap), (K w.params).In h -> h.Ns mainGlobals mg -> mg d.name = some (.ref fa) ->
   ∃ fd : FuncData, (∀ (s : Shared) (u : Value), BindsTo s fd ⟨[u], []⟩ [(x, u)]) /\
    ∀ base : Heap, (K w.params).In base -> base.Ns mainGlobals mg -> bY l.prog w (K w.params) mg base (CX w) k fa fd [x] (sp w))
  (hsp : ∀ (w : World) (H : Hp) (a : Addr) (ns : List Int), ns.length <= n -> zF H -> cZ (K w.params) H a (ns.map V.int) -> sp w [.ref a] H (fun v _ => v = .bl true) fun _ _ _ => False)
  (hCX : ∀ (w : World) (H : Hp) (s : Shared) (e : Value) (s' : Shared), CX w [] H s (fun _ _ _ => False) e s' -> False) :
  PySem.W.WalkO q loose XP YP l.row.toRowW d [] (fun f vs => PySem.call f vs) := by
 refine Att.attach_call hn hdf fun w s₀ s₁ mg mb fa o pm cd doc a vs ns G Y ho hd hcd hmg hobj hints hlen hg => ?_
 have KX := hY w _ Y;obtain ⟨fd, hb, hF⟩ := F w mg fa _ KX G.T.g hmg;exact za KX G.T.g G.T.b G.T.builtins G.T.nolimit hg hobj hints (Nat.le_trans hlen hn2) hr hF hb (fun H hO hS => hsp w H a ns hlen hO hS) fun H e s' => hCX w H s₁ e s'
noncomputable def km (s : Stmt) : Arguments := match s with
 | .FunctionDef _ a _ _ _ _ _ _ _ _ => a
 | _ => { posonlyargs := [], args := [], vararg := none, kwonlyargs := [], kw_defaults := [], kwarg := none, defaults := [] }
noncomputable def hB (s : Stmt) : List Stmt := match s with
 | .FunctionDef _ _ b _ _ _ _ _ _ _ => b
 | _ => []
noncomputable def ax (s : Stmt) : Scope := match s with
 | .FunctionDef _ _ _ _ _ _ sc _ _ _ => sc
 | _ => { kind := .function, names := [], isGenerator := false, isCoroutine := false }
noncomputable abbrev cN : mv := fun _ _ _ _ _ _ => False
noncomputable abbrev E0 : XK := fun _ _ _ => False
theorem zR {X : Cx} : t7 cN X E0 := fun _ _ _ _ _ _ _ h => h.elim
structure Fun (K : PySem.W.Frag) (x qual : Str) (st : Stmt) (f : Addr) (fd : FuncData) : Prop where
 ex : ∃ (oc : Value) (od : Option Addr) (kV doc pm : Value) (an : Option Addr) (cdv ct : Value) (osl : Array (Option Value)),
  fd = fnOf x qual (km st) (hB st) (ax st) .none kV doc pm an cdv ct /\ K.lookup f = some ⟨oc, od, .func fd, osl⟩ /\ codeIn K cdv qual = true
 kp : keepIn K (.ref f) = true
section
variable {P : Program} {w : World} {K : PySem.W.Frag} {mg : Str -> Option Value} {base : Heap}
theorem Fun.ok {x qual : Str} {st : Stmt} {f : Addr} {fd : FuncData} {N ps : List Str} {k : Nat} {sp : Sp} (F : Fun K x qual st f fd) (S : aY N ps (ax st)) (len : ∀ vs H Q E, sp vs H Q E -> vs.length = ps.length)
  (hbody : ∀ (cdv : Value) (A : Around) (outer : List Env) (s : Shared) (H : Hp) (vs : List V) (Q : VK) (E : XK), Room k (A.deeper (envOfC qual (ax st) s.heap.objs.size f cdv)) -> sp vs H Q E ->
   ∃ t, PSs (nN cN P w K mg base N qual (ax st) f cdv A outer s H E).nox (hB st) t /\ t { nx := fun _ H' => Q .non H', rt := Q } (start N vs) H) : bY P w K mg base cN (k + 1) f fd ps sp := by
 obtain ⟨oc, od, kV, doc, pm, an, cdv, ct, osl, rfl, lk, hcd⟩ := F.ex;refine ED lk hcd S len fun A outer s H vs Q E hr hsp => ?_
 obtain ⟨t, h, q⟩ := hbody cdv A outer s H vs Q E hr hsp;exact ⟨t, h.nox, q⟩
theorem Fun.binds {x qual : Str} {st : Stmt} {f : Addr} {fd : FuncData} {ps : List Str} (F : Fun K x qual st f fd)
  (h : ∀ (kV doc pm : Value) (an : Option Addr) (cdv ct : Value) (us : List Value), us.length = ps.length -> bindArgs (fnOf x qual (km st) (hB st) (ax st) .none kV doc pm an cdv ct) ⟨us, []⟩ = pure (ps.zip us)) : Binds K fd ps [] := by
 obtain ⟨oc, od, kV, doc, pm, an, cdv, ct, osl, rfl, lk, hcd⟩ := F.ex;exact .all (h kV doc pm an cdv ct)
theorem bz {x qual : Str} {st : Stmt} {f : Addr} {oc : Value} {od an : Option Addr} {osl : Array (Option Value)} {kV doc pm cdv ct : Value} (l : K.lookup f = some ⟨oc, od, .func (fnOf x qual (km st) (hB st) (ax st) .none kV doc pm an cdv ct), osl⟩)
  (c : codeIn K cdv qual = true) (k : keepIn K (.ref f) = true) : Fun K x qual st f (fnOf x qual (km st) (hB st) (ax st) .none kV doc pm an cdv ct) := ⟨⟨oc, od, kV, doc, pm, an, cdv, ct, osl, rfl, l, c⟩, k⟩
end
theorem small1000 {n : Nat} (h : n <= 1000) : n < sizeLine := Nat.lt_of_le_of_lt h dC
section
variable {X : Cx}
end
end L2
set_option maxHeartbeats 4000000
namespace DD
open PySem L2
noncomputable def NT : HO -> Prop
 | .tup _ => False
 | _ => True
inductive D where
 | hole | cell | node (a : Addr) (vs : List V) | pin (a : Addr) (o : {o : HO // NT o})
 | non | bl (b : Bool) | int (i : Int) | str (x : Str) | ty (n : String) | cls (a : Addr)
 | lst (own : Bool) (xs : List D)
 | tup (xs : List D)
 | obj (own : Bool) (C : Addr) (ks : List Str) (xs : List D)
 | dct (own : Bool) (ks : List (List fD)) (xs : List D)
noncomputable def FL (K : PySem.W.Frag) (F : Addr -> Prop) (H : Hp) (a : Addr) (vs : List V) : Prop := (F a /\ Rd H a (.lst vs)) \/ ∀ H', cZ K H' a vs
noncomputable def FT (K : PySem.W.Frag) (F : Addr -> Prop) (H : Hp) (a : Addr) (vs : List V) (L : List Addr) : Prop := (F a /\ H a = some (.tup vs)) \/ ((∀ H' : Hp, False) /\ L = [])
mutual
noncomputable def Ow (K : PySem.W.Frag) (F : Addr -> Prop) (H : Hp) : D -> V -> List Addr -> Prop
 | .hole, _, L => L = []
 | .cell, v, L => ∃ (a : Addr) (o : {o : HO // NT o}), v = .ref a /\ H a = some o.1 /\ L = [a]
 | .node a vs, v, L => v = .ref a /\ H a = some (.lst vs) /\ L = [a]
 | .pin a o, v, L => v = .ref a /\ H a = some o.1 /\ L = [a]
 | .non, v, L => v = .non /\ L = []
 | .bl b, v, L => v = .bl b /\ L = []
 | .int i, v, L => v = .int i /\ L = []
 | .str x, v, L => v = .str x /\ L = []
 | .ty x, v, L => v = .ty x /\ L = []
 | .cls x, v, L => v = .ref x /\ L = []
 | .lst true xs, v, L => ∃ a vs L', v = .ref a /\ H a = some (.lst vs) /\ OwL K F H xs vs L' /\ L = a :: L'
 | .lst false xs, v, L => ∃ a vs, v = .ref a /\ FL K F H a vs /\ OwL K F H xs vs [] /\ L = []
 | .tup xs, v, L => ∃ a vs, v = .ref a /\ FT K F H a vs L /\ OwL K F H xs vs L
 | .obj true C ks xs, v, L => ∃ a dx vs L', v = .ref a /\ H a = some (.ins C dx (ks.zip vs)) /\ ks.length = vs.length /\ OwL K F H xs vs L' /\ L = a :: L'
 | .obj false C ks xs, v, L => ∃ a dx vs, v = .ref a /\ H a = some (.ins C dx (ks.zip vs)) /\ F a /\ ks.length = vs.length /\ OwL K F H xs vs [] /\ L = []
 | .dct true ks xs, v, L => ∃ a vs L', v = .ref a /\ H a = some (.dT (ks.zip vs)) /\ ks.length = vs.length /\ OwL K F H xs vs L' /\ L = a :: L'
 | .dct false ks xs, v, L => ∃ a vs, v = .ref a /\ H a = some (.dT (ks.zip vs)) /\ F a /\ ks.length = vs.length /\ OwL K F H xs vs [] /\ L = []
noncomputable def OwL (K : PySem.W.Frag) (F : Addr -> Prop) (H : Hp) : List D -> List V -> List Addr -> Prop
 | [], vs, L => vs = [] /\ L = []
 | x :: xs, vs, L => ∃ v ws L1 L2, vs = v :: ws /\ Ow K F H x v L1 /\ OwL K F H xs ws L2 /\ L = L1 ++ L2
end
mutual
noncomputable def D.fz : D -> D
 | .lst _ xs => .lst false (D.fzL xs)
 | .tup xs => .tup (D.fzL xs)
 | .obj _ C ks xs => .obj false C ks (D.fzL xs)
 | .dct _ ks xs => .dct false ks (D.fzL xs)
 | .cell => .hole
 | .node _ _ => .hole
 | .pin _ _ => .hole
 | d => d
noncomputable def D.fzL : List D -> List D
 | [] => []
 | x :: xs => D.fz x :: D.fzL xs
end
section
variable {K : PySem.W.Frag} {F F' : Addr -> Prop} {H H' : Hp}
mutual
theorem Ow.dom : ∀ {d : D} {v : V} {L : List Addr}, Ow K F H d v L -> ∀ a ∈ L, ∃ o, H a = some o
 | .hole, _, _, h, a, ha => by simp only [Ow] at h; subst h; cases ha
 | .cell, _, _, h, a, ha => by simp only [Ow] at h; obtain ⟨b, o, rfl, e, rfl⟩ := h; rw [List.mem_singleton.mp ha]; exact ⟨o, e⟩
 | .node _ _, _, _, h, a, ha => by simp only [Ow] at h; obtain ⟨rfl, e, rfl⟩ := h; rw [List.mem_singleton.mp ha]; exact ⟨_, e⟩
 | .pin _ _, _, _, h, a, ha => by simp only [Ow] at h; obtain ⟨rfl, e, rfl⟩ := h; rw [List.mem_singleton.mp ha]; exact ⟨_, e⟩
 | .non, _, _, h, a, ha => by simp only [Ow] at h; rw [h.2] at ha; cases ha
 | .bl _, _, _, h, a, ha => by simp only [Ow] at h; rw [h.2] at ha; cases ha
 | .int _, _, _, h, a, ha => by simp only [Ow] at h; rw [h.2] at ha; cases ha
 | .str _, _, _, h, a, ha => by simp only [Ow] at h; rw [h.2] at ha; cases ha
 | .ty _, _, _, h, a, ha => by simp only [Ow] at h; rw [h.2] at ha; cases ha
 | .cls _, _, _, h, a, ha => by simp only [Ow] at h; rw [h.2] at ha; cases ha
 | .lst true xs, _, _, h, a, ha => by
  simp only [Ow] at h;obtain ⟨b, vs, L', rfl, e, r, rfl⟩ := h;rcases List.mem_cons.mp ha with rfl | ha
  ·exact ⟨_, e⟩
  ·exact OwL.dom r a ha
 | .lst false xs, _, _, h, a, ha => by simp only [Ow] at h; obtain ⟨_, _, _, _, _, rfl⟩ := h; cases ha
 | .tup xs, _, _, h, a, ha => by simp only [Ow] at h; obtain ⟨_, _, _, _, r⟩ := h; exact OwL.dom r a ha
 | .obj true C ks xs, _, _, h, a, ha => by
  simp only [Ow] at h;obtain ⟨b, dx, vs, L', rfl, e, _, r, rfl⟩ := h;rcases List.mem_cons.mp ha with rfl | ha
  ·exact ⟨_, e⟩
  ·exact OwL.dom r a ha
 | .obj false C ks xs, _, _, h, a, ha => by simp only [Ow] at h; obtain ⟨_, _, _, _, _, _, _, _, rfl⟩ := h; cases ha
 | .dct true ks xs, _, _, h, a, ha => by
  simp only [Ow] at h;obtain ⟨b, vs, L', rfl, e, _, r, rfl⟩ := h;rcases List.mem_cons.mp ha with rfl | ha
  ·exact ⟨_, e⟩
  ·exact OwL.dom r a ha
 | .dct false ks xs, _, _, h, a, ha => by simp only [Ow] at h; obtain ⟨_, _, _, _, _, _, _, rfl⟩ := h; cases ha
theorem OwL.dom : ∀ {xs : List D} {vs : List V} {L : List Addr}, OwL K F H xs vs L -> ∀ a ∈ L, ∃ o, H a = some o
 | [], _, _, h, a, ha => by simp only [OwL] at h; rw [h.2] at ha; cases ha
 | x :: xs, _, _, h, a, ha => by
  simp only [OwL] at h;obtain ⟨v, ws, L1, L2, rfl, h1, h2, rfl⟩ := h;rcases List.mem_append.mp ha with ha | ha
  ·exact Ow.dom h1 a ha
  ·exact OwL.dom h2 a ha
end
noncomputable def Ext (F : Addr -> Prop) (H : Hp) (F' : Addr -> Prop) (H' : Hp) : Prop := ∀ a, F a -> F' a /\ H' a = H a
theorem Ext.refl : Ext F H F H := fun _ h => ⟨h, rfl⟩
theorem Ext.trans {F'' : Addr -> Prop} {H'' : Hp} (a : Ext F H F' H') (b : Ext F' H' F'' H'') : Ext F H F'' H'' := fun x h =>
 ⟨(b x (a x h).1).1, ((b x (a x h).1).2).trans (a x h).2⟩
theorem Rd.eq {a : Addr} {u : HO} (h : Rd H a u) (e : H' a = H a) : Rd H' a u := by
 rcases h with h | ⟨o, h⟩
 ·exact .inl (e.trans h)
 ·exact .inr ⟨o, e.trans h⟩
theorem FL.ext {a : Addr} {vs : List V} (h : FL K F H a vs) (x : Ext F H F' H') : FL K F' H' a vs := by
 rcases h with ⟨f, r⟩ | h
 ·exact .inl ⟨(x a f).1, Rd.eq r (x a f).2⟩
 ·exact .inr h
theorem FT.ext {a : Addr} {vs : List V} {L : List Addr} (h : FT K F H a vs L) (x : Ext F H F' H') : FT K F' H' a vs L := by
 rcases h with ⟨f, r⟩ | h
 ·exact .inl ⟨(x a f).1, (x a f).2.trans r⟩
 ·exact .inr h
theorem FT.nil {a : Addr} {vs : List V} {L : List Addr} (h : FT K F H a vs L) : FT K F H a vs [] := by
 rcases h with h | h
 ·exact .inl h
 ·exact .inr ⟨h.1, rfl⟩
theorem FL.sq {a : Addr} {vs : List V} (h : FL K F H a vs) : cZ K H a vs := by
 rcases h with ⟨_, r⟩ | h
 ·exact .inl r
 ·exact h H
theorem FT.sq {a : Addr} {vs : List V} {L : List Addr} (h : FT K F H a vs L) : t6 K H a vs := by
 rcases h with ⟨_, r⟩ | h
 ·exact .inl (.inl r)
 ·exact (h.1 H).elim
mutual
theorem Ow.mono (x : Ext F H F' H') : ∀ {d : D} {v : V} {L : List Addr}, Ow K F H d v L -> (∀ a ∈ L, H' a = H a) -> Ow K F' H' d v L
 | .hole, _, _, h, _ => by simp only [Ow] at h ⊢; exact h
 | .cell, _, _, h, k => by simp only [Ow] at h ⊢; obtain ⟨b, o, rfl, e, rfl⟩ := h; exact ⟨b, o, rfl, (k b (by simp)).trans e, rfl⟩
 | .node _ _, _, _, h, k => by simp only [Ow] at h ⊢; obtain ⟨rfl, e, rfl⟩ := h; exact ⟨rfl, (k _ (by simp)).trans e, rfl⟩
 | .pin _ _, _, _, h, k => by simp only [Ow] at h ⊢; obtain ⟨rfl, e, rfl⟩ := h; exact ⟨rfl, (k _ (by simp)).trans e, rfl⟩
 | .non, _, _, h, _ => by simp only [Ow] at h ⊢; exact h
 | .bl _, _, _, h, _ => by simp only [Ow] at h ⊢; exact h
 | .int _, _, _, h, _ => by simp only [Ow] at h ⊢; exact h
 | .str _, _, _, h, _ => by simp only [Ow] at h ⊢; exact h
 | .ty _, _, _, h, _ => by simp only [Ow] at h ⊢; exact h
 | .cls _, _, _, h, _ => by simp only [Ow] at h ⊢; exact h
 | .lst true xs, _, _, h, k => by
  simp only [Ow] at h ⊢;obtain ⟨b, vs, L', rfl, e, r, rfl⟩ := h;exact ⟨b, vs, L', rfl, (k b (by simp)).trans e, OwL.mono x r fun a ha => k a (by simp [ha]), rfl⟩
 | .lst false xs, _, _, h, k => by
  simp only [Ow] at h ⊢;obtain ⟨b, vs, rfl, e, r, rfl⟩ := h;exact ⟨b, vs, rfl, e.ext x, OwL.mono x r (fun a ha => by cases ha), rfl⟩
 | .tup xs, _, _, h, k => by
  simp only [Ow] at h ⊢;obtain ⟨b, vs, rfl, e, r⟩ := h;exact ⟨b, vs, rfl, e.ext x, OwL.mono x r k⟩
 | .obj true C ks xs, _, _, h, k => by
  simp only [Ow] at h ⊢;obtain ⟨b, dx, vs, L', rfl, e, el, r, rfl⟩ := h;exact ⟨b, dx, vs, L', rfl, (k b (by simp)).trans e, el, OwL.mono x r fun a ha => k a (by simp [ha]), rfl⟩
 | .obj false C ks xs, _, _, h, k => by
  simp only [Ow] at h ⊢;obtain ⟨b, dx, vs, rfl, e, f, el, r, rfl⟩ := h;exact ⟨b, dx, vs, rfl, (x b f).2.trans e, (x b f).1, el, OwL.mono x r (fun a ha => by cases ha), rfl⟩
 | .dct true ks xs, _, _, h, k => by
  simp only [Ow] at h ⊢;obtain ⟨b, vs, L', rfl, e, el, r, rfl⟩ := h;exact ⟨b, vs, L', rfl, (k b (by simp)).trans e, el, OwL.mono x r fun a ha => k a (by simp [ha]), rfl⟩
 | .dct false ks xs, _, _, h, k => by
  simp only [Ow] at h ⊢;obtain ⟨b, vs, rfl, e, f, el, r, rfl⟩ := h;exact ⟨b, vs, rfl, (x b f).2.trans e, (x b f).1, el, OwL.mono x r (fun a ha => by cases ha), rfl⟩
theorem OwL.mono (x : Ext F H F' H') : ∀ {xs : List D} {vs : List V} {L : List Addr}, OwL K F H xs vs L -> (∀ a ∈ L, H' a = H a) -> OwL K F' H' xs vs L
 | [], _, _, h, _ => by simp only [OwL] at h ⊢; exact h
 | y :: xs, _, _, h, k => by
  simp only [OwL] at h ⊢;obtain ⟨v, ws, L1, L2, rfl, h1, h2, rfl⟩ := h;exact ⟨v, ws, L1, L2, rfl, Ow.mono x h1 fun a ha => k a (by simp [ha]), OwL.mono x h2 fun a ha => k a (by simp [ha]), rfl⟩
end
mutual
theorem Ow.fz (fs : ∀ a, F a -> F' a) : ∀ {d : D} {v : V} {L : List Addr}, Ow K F H d v L -> (∀ a ∈ L, F' a) -> Ow K F' H d.fz v []
 | .hole, _, _, h, _ => by simp only [Ow, D.fz] at h ⊢
 | .cell, _, _, h, k => by simp only [Ow, D.fz] at h ⊢
 | .node _ _, _, _, h, k => by simp only [Ow, D.fz] at h ⊢
 | .pin _ _, _, _, h, k => by simp only [Ow, D.fz] at h ⊢
 | .non, _, _, h, _ => by simp only [Ow, D.fz] at h ⊢; exact ⟨h.1, trivial⟩
 | .bl _, _, _, h, _ => by simp only [Ow, D.fz] at h ⊢; exact ⟨h.1, trivial⟩
 | .int _, _, _, h, _ => by simp only [Ow, D.fz] at h ⊢; exact ⟨h.1, trivial⟩
 | .str _, _, _, h, _ => by simp only [Ow, D.fz] at h ⊢; exact ⟨h.1, trivial⟩
 | .ty _, _, _, h, _ => by simp only [Ow, D.fz] at h ⊢; exact ⟨h.1, trivial⟩
 | .cls _, _, _, h, _ => by simp only [Ow, D.fz] at h ⊢; exact ⟨h.1, trivial⟩
 | .lst true xs, _, _, h, k => by
  simp only [Ow, D.fz] at h ⊢;obtain ⟨b, vs, L', rfl, e, r, rfl⟩ := h;exact ⟨b, vs, rfl, .inl ⟨k b (by simp), .inl e⟩, OwL.fz fs r fun a ha => k a (by simp [ha]), trivial⟩
 | .lst false xs, _, _, h, k => by
  simp only [Ow, D.fz] at h ⊢;obtain ⟨b, vs, rfl, e, r, rfl⟩ := h;exact ⟨b, vs, rfl, e.ext (fun a f => ⟨fs a f, rfl⟩), OwL.fz fs r (fun a ha => by cases ha), trivial⟩
 | .tup xs, _, _, h, k => by
  simp only [Ow, D.fz] at h ⊢;obtain ⟨b, vs, rfl, e, r⟩ := h;exact ⟨b, vs, rfl, (e.ext (fun a f => ⟨fs a f, rfl⟩)).nil, OwL.fz fs r k⟩
 | .obj true C ks xs, _, _, h, k => by
  simp only [Ow, D.fz] at h ⊢;obtain ⟨b, dx, vs, L', rfl, e, el, r, rfl⟩ := h;exact ⟨b, dx, vs, rfl, e, k b (by simp), el, OwL.fz fs r fun a ha => k a (by simp [ha]), trivial⟩
 | .obj false C ks xs, _, _, h, k => by
  simp only [Ow, D.fz] at h ⊢;obtain ⟨b, dx, vs, rfl, e, f, el, r, rfl⟩ := h;exact ⟨b, dx, vs, rfl, e, fs b f, el, OwL.fz fs r (fun a ha => by cases ha), trivial⟩
 | .dct true ks xs, _, _, h, k => by
  simp only [Ow, D.fz] at h ⊢;obtain ⟨b, vs, L', rfl, e, el, r, rfl⟩ := h;exact ⟨b, vs, rfl, e, k b (by simp), el, OwL.fz fs r fun a ha => k a (by simp [ha]), trivial⟩
 | .dct false ks xs, _, _, h, k => by
  simp only [Ow, D.fz] at h ⊢;obtain ⟨b, vs, rfl, e, f, el, r, rfl⟩ := h;exact ⟨b, vs, rfl, e, fs b f, el, OwL.fz fs r (fun a ha => by cases ha), trivial⟩
theorem OwL.fz (fs : ∀ a, F a -> F' a) : ∀ {xs : List D} {vs : List V} {L : List Addr}, OwL K F H xs vs L -> (∀ a ∈ L, F' a) -> OwL K F' H (D.fzL xs) vs []
 | [], _, _, h, _ => by simp only [OwL, D.fzL] at h ⊢; exact ⟨h.1, trivial⟩
 | y :: xs, _, _, h, k => by
  simp only [OwL, D.fzL] at h ⊢;obtain ⟨v, ws, L1, L2, rfl, h1, h2, rfl⟩ := h;exact ⟨v, ws, [], [], rfl, Ow.fz fs h1 fun a ha => k a (by simp [ha]), OwL.fz fs h2 fun a ha => k a (by simp [ha]), rfl⟩
end
noncomputable abbrev Ro := List (D × V)
noncomputable def OwP (K : PySem.W.Frag) (F : Addr -> Prop) (H : Hp) : Ro -> List Addr -> Prop
 | [], L => L = []
 | (d, v) :: R, L => ∃ L1 L2, Ow K F H d v L1 /\ OwP K F H R L2 /\ L = L1 ++ L2
theorem OwP.dom : ∀ {R : Ro} {L : List Addr}, OwP K F H R L -> ∀ a ∈ L, ∃ o, H a = some o
 | [], _, h, a, ha => by cases h; cases ha
 | (d, v) :: R, _, ⟨L1, L2, h1, h2, e⟩, a, ha => by
  subst e;rcases List.mem_append.mp ha with ha | ha
  ·exact h1.dom a ha
  ·exact OwP.dom h2 a ha
theorem OwP.mono (x : Ext F H F' H') : ∀ {R : Ro} {L : List Addr}, OwP K F H R L -> (∀ a ∈ L, H' a = H a) -> OwP K F' H' R L
 | [], _, h, _ => h
 | (d, v) :: R, _, ⟨L1, L2, h1, h2, e⟩, k => ⟨L1, L2, h1.mono x fun a ha => k a (by simp [e, ha]), OwP.mono x h2 fun a ha => k a (by simp [e, ha]), e⟩
theorem OwP.append : ∀ {R S : Ro} {L M : List Addr}, OwP K F H R L -> OwP K F H S M -> OwP K F H (R ++ S) (L ++ M)
 | [], _, _, _, h, k => by cases h; exact k
 | (d, v) :: R, _, _, _, ⟨L1, L2, h1, h2, e⟩, k => ⟨L1, L2 ++ _, h1, OwP.append h2 k, by rw [e, List.append_assoc]⟩
theorem OwP.split : ∀ {R S : Ro} {N : List Addr}, OwP K F H (R ++ S) N -> ∃ L M, N = L ++ M /\ OwP K F H R L /\ OwP K F H S M
 | [], _, N, h => ⟨[], N, rfl, rfl, h⟩
 | (d, v) :: R, _, _, ⟨L1, L2, h1, h2, e⟩ => by
  obtain ⟨L, M, e2, a, b⟩ := OwP.split h2;exact ⟨L1 ++ L, M, by rw [e, e2, List.append_assoc], ⟨L1, L, h1, a, rfl⟩, b⟩
theorem OwP.perm {R S : Ro} (p : R.Perm S) : ∀ {L : List Addr}, OwP K F H R L -> ∃ M, L.Perm M /\ OwP K F H S M := by
 induction p with
 | nil => intro L h; exact ⟨L, .refl _, h⟩
 | cons x _ ih =>
  rintro L ⟨L1, L2, h1, h2, e⟩;obtain ⟨M, pm, h3⟩ := ih h2;subst e;exact ⟨L1 ++ M, pm.append_left L1, L1, M, h1, h3, rfl⟩
 | swap x y l =>
  rintro L ⟨L1, L2, h1, ⟨L3, L4, h3, h4, e2⟩, e⟩;subst e; subst e2;refine ⟨L3 ++ (L1 ++ L4), ?_, L3, L1 ++ L4, h3, ⟨L1, L4, h1, h4, rfl⟩, rfl⟩;rw [<- List.append_assoc, <- List.append_assoc];exact List.perm_append_comm.append_right L4
 | trans _ _ ih1 ih2 =>
  intro L h;obtain ⟨M, p1, h1⟩ := ih1 h;obtain ⟨N, p2, h2⟩ := ih2 h1;exact ⟨N, p1.trans p2, h2⟩
theorem OwL.toP : ∀ {xs : List D} {vs : List V} {L : List Addr}, OwL K F H xs vs L -> xs.length = vs.length /\ OwP K F H (xs.zip vs) L
 | [], _, _, h => by simp only [OwL] at h; obtain ⟨rfl, rfl⟩ := h; exact ⟨rfl, rfl⟩
 | x :: xs, _, _, h => by
  simp only [OwL] at h;obtain ⟨v, ws, L1, L2, rfl, h1, h2, rfl⟩ := h;have r := h2.toP;exact ⟨by simp [r.1], L1, L2, h1, r.2, rfl⟩
theorem OwL.ofP : ∀ {xs : List D} {vs : List V} {L : List Addr}, xs.length = vs.length -> OwP K F H (xs.zip vs) L -> OwL K F H xs vs L
 | [], [], _, _, h => by simp only [OwL]; exact ⟨trivial, h⟩
 | x :: xs, v :: vs, _, e, h => by
  obtain ⟨L1, L2, h1, h2, e2⟩ := h;simp only [OwL];exact ⟨v, vs, L1, L2, rfl, h1, OwL.ofP (by simpa using e) h2, e2⟩
structure G (K : PySem.W.Frag) (F : Addr -> Prop) (H : Hp) (R : Ro) : Prop where
 own : ∃ L, OwP K F H R L /\ L.Nodup /\ ∀ a ∈ L, ¬ F a
 dom : ∀ a, F a -> ∃ o, H a = some o
variable {R S : Ro} {d : D} {v : V}
theorem G.perm (g : G K F H R) (p : R.Perm S) : G K F H S := by
 obtain ⟨L, h, n, f⟩ := g.own;obtain ⟨M, pm, h'⟩ := h.perm p;exact ⟨⟨M, h', pm.nodup_iff.mp n, fun a ha => f a (pm.mem_iff.mpr ha)⟩, g.dom⟩
theorem G.pop (g : G K F H ((d, v) :: R)) : G K F H R := by
 obtain ⟨L, ⟨L1, L2, h1, h2, rfl⟩, n, f⟩ := g.own;exact ⟨⟨L2, h2, (List.nodup_append.mp n).2.1, fun a ha => f a (by simp [ha])⟩, g.dom⟩
theorem G.popN (g : G K F H (S ++ R)) : G K F H R := by
 induction S with
 | nil => exact g
 | cons x S ih => exact ih (G.pop (d := x.1) (v := x.2) g)
noncomputable def Bor (K : PySem.W.Frag) (F : Addr -> Prop) (H : Hp) (d : D) (v : V) : Prop := ∃ L, Ow K F H d v L
theorem G.bor (g : G K F H R) (h : (d, v) ∈ R) : Bor K F H d v := by
 obtain ⟨A, B, rfl⟩ := List.append_of_mem h;obtain ⟨L, ⟨L1, L2, h1, h2, rfl⟩, n, f⟩ := (g.popN).own;exact ⟨L1, h1⟩
theorem G.push (g : G K F H R) (h : Ow K F H d v []) : G K F H ((d, v) :: R) := by
 obtain ⟨L, h1, n, f⟩ := g.own;exact ⟨⟨L, ⟨[], L, h, h1, rfl⟩, n, f⟩, g.dom⟩
theorem G.alloc {p : Addr} {o : HO} (g : G K F H R) (hp : H p = none) (hn : autoParam (NT o) Aq._auto_1) : G K F (ay H p o) ((.cell, .ref p) :: R) /\ Ext F H F (ay H p o) := by
 obtain ⟨L, h1, n, f⟩ := g.own;have nF : ∀ a, F a -> a ≠ p := fun a fa e => by obtain ⟨o, h⟩ := g.dom a fa; rw [e, hp] at h; cases h
 have nL : ∀ a ∈ L, a ≠ p := fun a ha e => by obtain ⟨o, h⟩ := h1.dom a ha; rw [e, hp] at h; cases h
 have x : Ext F H F (ay H p o) := fun a fa => ⟨fa, aw (nF a fa)⟩
 refine ⟨⟨⟨p :: L, ⟨[p], L, ?_, h1.mono x fun a ha => aw (nL a ha), rfl⟩, List.nodup_cons.mpr ⟨fun h => nL p h rfl, n⟩, fun a ha fa => ?_⟩, fun a fa => ?_⟩, x⟩
 ·simp only [Ow]; exact ⟨p, ⟨o, hn⟩, rfl, bG, rfl⟩
 ·rcases List.mem_cons.mp ha with rfl | ha
  ·exact nF _ fa rfl
  ·exact f a ha fa
 ·rw [aw (nF a fa)]; exact g.dom a fa
theorem G.write {a : Addr} {o : HO} (g : G K F H ((.cell, .ref a) :: R)) (hn : autoParam (NT o) Aq._auto_1) : G K F (ay H a o) ((.cell, .ref a) :: R) /\ Ext F H F (ay H a o) := by
 obtain ⟨L, ⟨L1, L2, h1, h2, rfl⟩, n, f⟩ := g.own;simp only [Ow] at h1;obtain ⟨b, ob, e, hb, rfl⟩ := h1;cases e;have nF : ∀ c, F c -> c ≠ a := fun c fc e => f a (by simp) (e ▸ fc)
 have nL : ∀ c ∈ L2, c ≠ a := fun c hc e => (List.nodup_cons.mp n).1 (e ▸ hc)
 have x : Ext F H F (ay H a o) := fun c fc => ⟨fc, aw (nF c fc)⟩
 refine ⟨⟨⟨[a] ++ L2, ⟨[a], L2, ?_, h2.mono x fun c hc => aw (nL c hc), rfl⟩, n, f⟩, fun c fc => ?_⟩, x⟩
 ·simp only [Ow]; exact ⟨a, ⟨o, hn⟩, rfl, bG, rfl⟩
 ·rw [aw (nF c fc)]; exact g.dom c fc
theorem G.openL {xs : List D} (g : G K F H ((.lst true xs, v) :: R)) : ∃ a vs, v = .ref a /\ H a = some (.lst vs) /\ xs.length = vs.length /\ G K F H ((.cell, .ref a) :: (xs.zip vs ++ R)) := by
 obtain ⟨L, ⟨L1, L2, h1, h2, rfl⟩, n, f⟩ := g.own;simp only [Ow] at h1;obtain ⟨a, vs, L', rfl, e, r, rfl⟩ := h1;refine ⟨a, vs, rfl, e, r.toP.1, ⟨a :: L' ++ L2, ⟨[a], L' ++ L2, ?_, r.toP.2.append h2, rfl⟩, n, f⟩, g.dom⟩;simp only [Ow]; exact ⟨a, ⟨.lst vs, trivial⟩, rfl, e, rfl⟩
theorem G.formL {xs : List D} {vs : List V} {a : Addr} (g : G K F H ((.cell, .ref a) :: (xs.zip vs ++ R))) (hl : xs.length = vs.length) (e : H a = some (.lst vs)) : G K F H ((.lst true xs, .ref a) :: R) := by
 obtain ⟨L, ⟨L1, L2, h1, h2, rfl⟩, n, f⟩ := g.own;simp only [Ow] at h1;obtain ⟨b, ob, e', hb, rfl⟩ := h1;cases e';obtain ⟨M, N, rfl, hm, hn⟩ := h2.split;refine ⟨⟨(a :: M) ++ N, ⟨a :: M, N, ?_, hn, rfl⟩, by simpa using n, fun c hc => f c (by simpa using hc)⟩, g.dom⟩;simp only [Ow];exact ⟨a, vs, M, rfl, e, OwL.ofP hl hm, rfl⟩
theorem G.openN {xs : List D} (g : G K F H ((.lst true xs, v) :: R)) : ∃ a vs, v = .ref a /\ H a = some (.lst vs) /\ xs.length = vs.length /\ G K F H ((.node a vs, .ref a) :: (xs.zip vs ++ R)) := by
 obtain ⟨L, ⟨L1, L2, h1, h2, rfl⟩, n, f⟩ := g.own;simp only [Ow] at h1;obtain ⟨a, vs, L', rfl, e, r, rfl⟩ := h1;refine ⟨a, vs, rfl, e, r.toP.1, ⟨a :: L' ++ L2, ⟨[a], L' ++ L2, ?_, r.toP.2.append h2, rfl⟩, n, f⟩, g.dom⟩;simp only [Ow]; exact ⟨trivial, e, trivial⟩
theorem G.formN {xs : List D} {vs : List V} {a : Addr} (g : G K F H ((.node a vs, .ref a) :: (xs.zip vs ++ R))) (hl : xs.length = vs.length) : H a = some (.lst vs) /\ G K F H ((.lst true xs, .ref a) :: R) := by
 obtain ⟨L, ⟨L1, L2, h1, h2, rfl⟩, n, f⟩ := g.own;simp only [Ow] at h1;obtain ⟨_, e, rfl⟩ := h1;obtain ⟨M, N, rfl, hm, hn⟩ := h2.split;refine ⟨e, ⟨⟨(a :: M) ++ N, ⟨a :: M, N, ?_, hn, rfl⟩, by simpa using n, fun c hc => f c (by simpa using hc)⟩, g.dom⟩⟩;simp only [Ow];exact ⟨a, vs, M, rfl, e, OwL.ofP hl hm, rfl⟩
theorem G.openT {xs : List D} (g : G K F H ((.tup xs, v) :: R)) : ∃ a vs, v = .ref a /\ FT K F H a vs [] /\ xs.length = vs.length /\ G K F H (xs.zip vs ++ R) := by
 obtain ⟨L, ⟨L1, L2, h1, h2, rfl⟩, n, f⟩ := g.own;simp only [Ow] at h1;obtain ⟨a, vs, rfl, e, r⟩ := h1;exact ⟨a, vs, rfl, e.nil, r.toP.1, ⟨L1 ++ L2, r.toP.2.append h2, n, f⟩, g.dom⟩
theorem G.formT {xs : List D} {vs : List V} {a : Addr} (g : G K F H (xs.zip vs ++ R)) (hl : xs.length = vs.length) (e : F a /\ H a = some (.tup vs)) : G K F H ((.tup xs, .ref a) :: R) := by
 obtain ⟨L, h, n, f⟩ := g.own;obtain ⟨M, N, rfl, hm, hn⟩ := h.split;refine ⟨⟨M ++ N, ⟨M, N, ?_, hn, rfl⟩, n, f⟩, g.dom⟩;simp only [Ow];exact ⟨a, vs, rfl, .inl e, OwL.ofP hl hm⟩
theorem G.freeze (g : G K F H ((d, v) :: R)) : ∃ F', Ext F H F' H /\ G K F' H ((d.fz, v) :: R) /\ Ow K F' H d.fz v [] := by
 obtain ⟨L, ⟨L1, L2, h1, h2, rfl⟩, n, f⟩ := g.own;have x : Ext F H (fun a => F a \/ a ∈ L1) H := fun a h => ⟨.inl h, rfl⟩
 have z : Ow K (fun a => F a \/ a ∈ L1) H d.fz v [] := h1.fz (fun a h => .inl h) fun a h => .inr h
 refine ⟨fun a => F a \/ a ∈ L1, x, ⟨⟨L2, ⟨[], L2, z, h2.mono x fun _ _ => rfl, rfl⟩, (List.nodup_append.mp n).2.1, fun a ha fa => ?_⟩, fun a fa => ?_⟩, z⟩
 ·rcases fa with fa | fa
  ·exact f a (by simp [ha]) fa
  ·exact (List.nodup_append.mp n).2.2 a fa a ha rfl
 ·rcases fa with fa | fa
  ·exact g.dom a fa
  ·exact h1.dom a fa
theorem G.layT {xs : List D} {vs : List V} {p : Addr} (g : G K F H (xs.zip vs ++ R)) (hl : xs.length = vs.length) (hp : H p = none) :
  ∃ F', Ext F H F' (ay H p (.tup vs)) /\ G K F' (ay H p (.tup vs)) ((.tup xs, .ref p) :: R) := by
 obtain ⟨L, h1, n, f⟩ := g.own;have nF : ∀ a, F a -> a ≠ p := fun a fa e => by obtain ⟨o, h⟩ := g.dom a fa; rw [e, hp] at h; cases h
 have nL : ∀ a ∈ L, a ≠ p := fun a ha e => by obtain ⟨o, h⟩ := h1.dom a ha; rw [e, hp] at h; cases h
 have x : Ext F H (fun a => F a \/ a = p) (ay H p (.tup vs)) := fun a fa => ⟨.inl fa, aw (nF a fa)⟩
 refine ⟨_, x, G.formT (a := p) ⟨⟨L, h1.mono x fun a ha => aw (nL a ha), n, fun a ha fa => ?_⟩, fun a fa => ?_⟩ hl ⟨.inr rfl, bG⟩⟩
 ·rcases fa with fa | fa
  ·exact f a ha fa
  ·exact nL a ha fa
 ·rcases fa with fa | fa
  ·rw [aw (nF a fa)]; exact g.dom a fa
  ·subst fa; exact ⟨_, bG⟩
theorem G.ext (g : G K F H R) (x : Ext F H F' H') (k : ∀ a o, H a = some o -> H' a = some o) (fr : ∀ a, F' a -> F a \/ H a = none) (dm : ∀ a, F' a -> ∃ o, H' a = some o) : G K F' H' R := by
 obtain ⟨L, h, n, f⟩ := g.own;refine ⟨⟨L, h.mono x fun a ha => ?_, n, fun a ha fa => ?_⟩, dm⟩
 ·obtain ⟨o, e⟩ := h.dom a ha
  rw [e, k a o e]
 ·obtain ⟨o, e⟩ := h.dom a ha
  rcases fr a fa with z | z
  ·exact f a ha z
  ·rw [e] at z; cases z
end
section
variable {K : PySem.W.Frag} {F F' : Addr -> Prop} {H H' : Hp}
noncomputable abbrev ar := List (Option D)
noncomputable def sl : ar -> St -> Ro
 | some d :: σD, some v :: σ => (d, v) :: sl σD σ
 | some _ :: σD, none :: σ => sl σD σ
 | none :: σD, _ :: σ => sl σD σ
 | _, _ => []
noncomputable def Mt : ar -> St -> Prop
 | [], [] => True
 | none :: σD, _ :: σ => Mt σD σ
 | some _ :: σD, some _ :: σ => Mt σD σ
 | _, _ => False
theorem Mt.length : ∀ {σD : ar} {σ : St}, Mt σD σ -> σD.length = σ.length
 | [], [], _ => rfl
 | none :: σD, _ :: σ, h => by simp [Mt.length (σD := σD) (σ := σ) h]
 | some _ :: σD, some _ :: σ, h => by simp [Mt.length (σD := σD) (σ := σ) h]
theorem Mt.get : ∀ {σD : ar} {σ : St} {i : Nat} {d : D}, Mt σD σ -> σD[i]? = some (some d) -> ∃ v, σ[i]? = some (some v) := by
 intro σD
 induction σD with
 | nil => intro σ i d h e; simp at e
 | cons x σD ih =>
  intro σ i d h e;cases σ with
  | nil => cases x <;> exact h.elim
  | cons o σ =>
   cases i with
   | zero =>
    simp at e; subst e;cases o with
    | none => exact h.elim
    | some z => exact ⟨z, rfl⟩
   | succ i =>
    have e' : σD[i]? = some (some d) := by simpa using e
    cases x with
    | none => simpa using ih (σ := σ) h e'
    | some y => cases o with
     | none => exact h.elim
     | some z => simpa using ih (σ := σ) h e'
theorem Mt.clear : ∀ {σD : ar} {σ : St} (i : Nat), Mt σD σ -> Mt (σD.set i none) σ := by
 intro σD
 induction σD with
 | nil =>
  intro σ i h;exact h
 | cons x σD ih =>
  intro σ i h;cases σ with
  | nil => cases x <;> exact h.elim
  | cons o σ =>
   have h' : Mt σD σ := by
    cases x with
    | none => exact h
    | some y => cases o with
     | none => exact h.elim
     | some z => exact h
   cases i with
   | zero => exact h'
   | succ i =>
    have := ih i h'
    cases x with
    | none => exact this
    | some y => cases o with
     | none => exact h.elim
     | some z => exact this
theorem Mt.put : ∀ {σD : ar} {σ : St} {i : Nat} {v : V} (d : D), Mt σD σ -> σ[i]? = some (some v) -> Mt (σD.set i (some d)) σ := by
 intro σD
 induction σD with
 | nil =>
  intro σ i v d h e;cases σ with
  | nil => simp at e
  | cons o σ => exact h.elim
 | cons x σD ih =>
  intro σ i v d h e;cases σ with
  | nil => cases x <;> exact h.elim
  | cons o σ =>
   cases i with
   | zero =>
    simp at e; subst e;cases x <;> exact h
   | succ i =>
    have e' : σ[i]? = some (some v) := by simpa using e
    cases x with
    | none => exact ih (σ := σ) d h e'
    | some y => cases o with
     | none => exact h.elim
     | some z => exact ih (σ := σ) d h e'
theorem Mt.store : ∀ {σD : ar} {σ : St} (i : Nat) (v : V) (d : D), Mt σD σ -> Mt (σD.set i (some d)) (σ.set i (some v)) := by
 intro σD
 induction σD with
 | nil =>
  intro σ i v d h;cases σ with
  | nil => exact h
  | cons o σ => exact h.elim
 | cons x σD ih =>
  intro σ i v d h;cases σ with
  | nil => cases x <;> exact h.elim
  | cons o σ =>
   have h' : Mt σD σ := by
    cases x with
    | none => exact h
    | some y => cases o with
     | none => exact h.elim
     | some z => exact h
   cases i with
   | zero => exact h'
   | succ i =>
    have := ih i v d h'
    cases x with
    | none => exact this
    | some y => cases o with
     | none => exact h.elim
     | some z => exact this
theorem my : ∀ {σD : ar} {σ : St} {i : Nat} {d : D} {v : V}, σD[i]? = some (some d) -> σ[i]? = some (some v) -> (sl σD σ).Perm ((d, v) :: sl (σD.set i none) σ) := by
 intro σD
 induction σD with
 | nil => intro σ i d v e; simp at e
 | cons x σD ih =>
  intro σ i d v e e';cases σ with
  | nil => simp at e'
  | cons o σ =>
   cases i with
   | zero =>
    simp at e e'; subst e; subst e';exact .refl _
   | succ i =>
    have q := ih (σ := σ) (i := i) (d := d) (v := v) (by simpa using e) (by simpa using e');cases x with
    | none => exact q
    | some y => cases o with
     | none => exact q
     | some z => exact (q.cons _).trans (.swap _ _ _)
theorem mz : ∀ {σD : ar} {σ : St} {i : Nat}, σD[i]? = some none -> sl (σD.set i none) σ = sl σD σ
 | [], _, _, e => by simp at e
 | none :: σD, [], 0, _ => rfl
 | none :: σD, o :: σ, 0, _ => rfl
 | some _ :: σD, _, 0, e => by simp at e
 | x :: σD, [], i + 1, e => by cases x <;> rfl
 | none :: σD, _ :: σ, i + 1, e => mz (σD := σD) (σ := σ) (i := i) (by simpa using e)
 | some x :: σD, none :: σ, i + 1, e => mz (σD := σD) (σ := σ) (i := i) (by simpa using e)
 | some x :: σD, some y :: σ, i + 1, e => by
  show (x, y) :: sl (σD.set i none) σ = (x, y) :: sl σD σ;rw [mz (σD := σD) (σ := σ) (i := i) (by simpa using e)]
theorem wK : ∀ {σD : ar} {σ : St} {i : Nat} {v : V} (d : D), i < σD.length -> σ[i]? = some (some v) -> (sl (σD.set i (some d)) σ).Perm ((d, v) :: sl (σD.set i none) σ) := fun {σD σ i v} d h e => by
 have h1 := my (σD := σD.set i (some d)) (σ := σ) (i := i) (d := d) (v := v) (by simp [h]) e;rw [List.set_set] at h1;exact h1
theorem kG : ∀ {σD : ar} {σ : St} {i : Nat} {v : V}, sl (σD.set i none) (σ.set i (some v)) = sl (σD.set i none) σ
 | [], _, _, _ => by simp [sl]
 | x :: σD, [], i, _ => by simp
 | x :: σD, o :: σ, 0, _ => by cases o <;> rfl
 | none :: σD, o :: σ, i + 1, _ => kG (σD := σD) (σ := σ) (i := i)
 | some x :: σD, none :: σ, i + 1, _ => kG (σD := σD) (σ := σ) (i := i)
 | some x :: σD, some y :: σ, i + 1, _ => by
  show (x, y) :: sl (σD.set i none) (σ.set i _) = (x, y) :: sl (σD.set i none) σ;rw [kG (σD := σD) (σ := σ) (i := i)]
theorem G.clear {σD : ar} {σ : St} {R : Ro} (i : Nat) (m : Mt σD σ) (g : G K F H (sl σD σ ++ R)) : G K F H (sl (σD.set i none) σ ++ R) := by
 rcases h : σD[i]? with _ | _ | d
 ·rw [List.set_eq_of_length_le (List.getElem?_eq_none_iff.mp h)]; exact g
 ·rw [mz h]; exact g
 ·obtain ⟨v, hv⟩ := m.get h
  exact G.pop (d := d) (v := v) (g.perm ((my h hv).append_right R))
structure Rel (K : PySem.W.Frag) (F : Addr -> Prop) (H : Hp) (σD : ar) (σ : St) (R : Ro) : Prop where
 mt : Mt σD σ
 g : G K F H (sl σD σ ++ R)
variable {σD : ar} {σ : St} {R S : Ro} {d : D} {v : V} {i : Nat}
theorem Rel.perm (r : Rel K F H σD σ R) (p : R.Perm S) : Rel K F H σD σ S := ⟨r.mt, r.g.perm (p.append_left _)⟩
theorem Rel.front (r : Rel K F H σD σ R) : G K F H (R ++ sl σD σ) := r.g.perm List.perm_append_comm
theorem Rel.of (m : Mt σD σ) (g : G K F H (R ++ sl σD σ)) : Rel K F H σD σ R := ⟨m, g.perm List.perm_append_comm⟩
theorem Rel.get (r : Rel K F H σD σ R) (e : σD[i]? = some (some d)) : ∃ v, σ[i]? = some (some v) /\ Bor K F H d v := by
 obtain ⟨v, hv⟩ := r.mt.get e;exact ⟨v, hv, r.g.bor (List.mem_append_left _ ((my e hv).mem_iff.mpr (by simp)))⟩
theorem Rel.take (r : Rel K F H σD σ R) (e : σD[i]? = some (some d)) : ∃ v, σ[i]? = some (some v) /\ Rel K F H (σD.set i none) σ ((d, v) :: R) := by
 obtain ⟨v, hv⟩ := r.mt.get e;refine ⟨v, hv, r.mt.clear i, r.g.perm ?_⟩;exact ((my e hv).append_right R).trans List.perm_middle.symm
theorem Rel.put (r : Rel K F H σD σ ((d, v) :: R)) (e : σ[i]? = some (some v)) : Rel K F H (σD.set i (some d)) σ R := by
 have hi : i < σD.length := by rw [r.mt.length]; exact (List.getElem?_eq_some_iff.mp e).1
 refine ⟨r.mt.put d e, (r.g.clear i r.mt).perm ?_⟩;exact List.perm_middle.trans ((wK d hi e).append_right R).symm
theorem Rel.store (r : Rel K F H σD σ ((d, v) :: R)) (hi : i < σ.length) : Rel K F H (σD.set i (some d)) (σ.set i (some v)) R := by
 have hi' : i < σD.length := by rw [r.mt.length]; exact hi
 refine ⟨r.mt.store i v d, (r.g.clear i r.mt).perm ?_⟩;have h := wK (σD := σD) (σ := σ.set i (some v)) (i := i) (v := v) d hi' (by simp [hi]);rw [kG] at h;exact List.perm_middle.trans (h.append_right R).symm
theorem Rel.pop (r : Rel K F H σD σ ((d, v) :: R)) : Rel K F H σD σ R := Rel.of r.mt (r.front).pop
theorem Rel.popN (r : Rel K F H σD σ (S ++ R)) : Rel K F H σD σ R := Rel.of r.mt (by have h := r.front; rw [List.append_assoc] at h; exact h.popN)
theorem Rel.push (r : Rel K F H σD σ R) (h : Ow K F H d v []) : Rel K F H σD σ ((d, v) :: R) := Rel.of r.mt (r.front.push h)
theorem Rel.bor (r : Rel K F H σD σ R) (h : (d, v) ∈ R) : Bor K F H d v := r.g.bor (List.mem_append_right _ h)
theorem Rel.freeze (r : Rel K F H σD σ ((d, v) :: R)) : ∃ F', Ext F H F' H /\ Rel K F' H σD σ ((d.fz, v) :: R) /\ Ow K F' H d.fz v [] := by
 obtain ⟨F', x, g, o⟩ := r.front.freeze;exact ⟨F', x, Rel.of r.mt g, o⟩
theorem Rel.openL {xs : List D} (r : Rel K F H σD σ ((.lst true xs, v) :: R)) : ∃ a vs, v = .ref a /\ H a = some (.lst vs) /\ xs.length = vs.length /\ Rel K F H σD σ ((.cell, .ref a) :: (xs.zip vs ++ R)) := by
 obtain ⟨a, vs, e, h, l, g⟩ := r.front.openL;exact ⟨a, vs, e, h, l, Rel.of r.mt (by simpa using g)⟩
theorem Rel.formL {xs : List D} {vs : List V} {a : Addr} (r : Rel K F H σD σ ((.cell, .ref a) :: (xs.zip vs ++ R))) (hl : xs.length = vs.length) (e : H a = some (.lst vs)) : Rel K F H σD σ ((.lst true xs, .ref a) :: R) :=
 Rel.of r.mt (G.formL (vs := vs) (by simpa using r.front) hl e)
theorem Rel.openN {xs : List D} (r : Rel K F H σD σ ((.lst true xs, v) :: R)) : ∃ a vs, v = .ref a /\ H a = some (.lst vs) /\ xs.length = vs.length /\ Rel K F H σD σ ((.node a vs, .ref a) :: (xs.zip vs ++ R)) := by
 obtain ⟨a, vs, e, h, l, g⟩ := r.front.openN;exact ⟨a, vs, e, h, l, Rel.of r.mt (by simpa using g)⟩
theorem Rel.formN {xs : List D} {vs : List V} {a : Addr} (r : Rel K F H σD σ ((.node a vs, .ref a) :: (xs.zip vs ++ R))) (hl : xs.length = vs.length) : Rel K F H σD σ ((.lst true xs, .ref a) :: R) :=
 Rel.of r.mt (G.formN (vs := vs) (by simpa using r.front) hl).2
theorem Rel.openT {xs : List D} (r : Rel K F H σD σ ((.tup xs, v) :: R)) : ∃ a vs, v = .ref a /\ FT K F H a vs [] /\ xs.length = vs.length /\ Rel K F H σD σ (xs.zip vs ++ R) := by
 obtain ⟨a, vs, e, h, l, g⟩ := r.front.openT;exact ⟨a, vs, e, h, l, Rel.of r.mt (by simpa using g)⟩
theorem Rel.alloc {p : Addr} {o : HO} (r : Rel K F H σD σ R) (hp : H p = none) (hn : autoParam (NT o) Aq._auto_1) : Rel K F (ay H p o) σD σ ((.cell, .ref p) :: R) /\ Ext F H F (ay H p o) := by
 obtain ⟨g, x⟩ := r.front.alloc (o := o) hp hn;exact ⟨Rel.of r.mt g, x⟩
theorem Rel.write {a : Addr} {o : HO} (r : Rel K F H σD σ ((.cell, .ref a) :: R)) (hn : autoParam (NT o) Aq._auto_1) : Rel K F (ay H a o) σD σ ((.cell, .ref a) :: R) /\ Ext F H F (ay H a o) := by
 obtain ⟨g, x⟩ := r.front.write (o := o) hn;exact ⟨Rel.of r.mt g, x⟩
theorem Rel.layL {xs : List D} {vs : List V} {p : Addr} (r : Rel K F H σD σ (xs.zip vs ++ R)) (hl : xs.length = vs.length) (hp : H p = none) :
  Rel K F (ay H p (.lst vs)) σD σ ((.lst true xs, .ref p) :: R) /\ Ext F H F (ay H p (.lst vs)) := by
 obtain ⟨r1, x⟩ := r.alloc (o := .lst vs) hp;exact ⟨r1.formL hl bG, x⟩
theorem Rel.layT {xs : List D} {vs : List V} {p : Addr} (r : Rel K F H σD σ (xs.zip vs ++ R)) (hl : xs.length = vs.length) (hp : H p = none) :
  ∃ F', Ext F H F' (ay H p (.tup vs)) /\ Rel K F' (ay H p (.tup vs)) σD σ ((.tup xs, .ref p) :: R) := by
 obtain ⟨F', x, g⟩ := G.layT (R := R ++ sl σD σ) (by simpa using r.front) hl hp;exact ⟨F', x, Rel.of r.mt g⟩
structure Grow (F : Addr -> Prop) (H : Hp) (F' : Addr -> Prop) (H' : Hp) : Prop where
 x : Ext F H F' H'
 k : ∀ a o, H a = some o -> H' a = some o
 fr : ∀ a, F' a -> F a \/ H a = none
 dm : (∀ a, F a -> ∃ o, H a = some o) -> ∀ a, F' a -> ∃ o, H' a = some o
theorem Grow.refl : Grow F H F H := ⟨Ext.refl, fun _ _ e => e, fun _ h => .inl h, fun h => h⟩
theorem Grow.trans {F'' : Addr -> Prop} {H'' : Hp} (a : Grow F H F' H') (b : Grow F' H' F'' H'') : Grow F H F'' H'' :=
 ⟨a.x.trans b.x, fun x o e => b.k x o (a.k x o e), fun x h => by
  rcases b.fr x h with h | h
  ·exact a.fr x h
  ·refine .inr ?_
   rcases e : H x with _ | o
   ·rfl
   ·rw [a.k x o e] at h
    exact (nomatch h), fun d => b.dm (a.dm d)⟩
theorem Rel.grow (r : Rel K F H σD σ R) (g : Grow F H F' H') : Rel K F' H' σD σ R := ⟨r.mt, r.g.ext g.x g.k g.fr (g.dm r.g.dom)⟩
theorem Bor.grow (b : Bor K F H d v) (g : Grow F H F' H') : Bor K F' H' d v := by
 obtain ⟨L, h⟩ := b;exact ⟨L, h.mono g.x fun a ha => by obtain ⟨o, e⟩ := h.dom a ha; rw [e, g.k a o e]⟩
end
end DD
namespace DD
open PySem PySem.Spec PyProof.Rows L2
noncomputable abbrev St := L2.St
noncomputable def D.sc : D -> Option V
 | .non => some .non
 | .bl b => some (.bl b)
 | .int i => some (.int i)
 | .str x => some (.str x)
 | .ty n => some (.ty n)
 | .cls a => some (.ref a)
 | _ => none
section
variable {K : PySem.W.Frag} {F F' : Addr -> Prop} {H H' : Hp} {d : D} {v w : V} {L : List Addr} {R : Ro} {σD : ar} {σ : St}
theorem Ow.of_sc (h : d.sc = some w) : Ow K F H d w [] := by
 cases d <;> simp only [D.sc] at h <;> cases h <;> simp only [Ow] <;> exact ⟨trivial, trivial⟩
theorem Ow.sc (o : Ow K F H d v L) (h : d.sc = some w) : v = w /\ L = [] := by
 cases d <;> simp only [D.sc] at h <;> cases h <;> simp only [Ow] at o <;> exact o
theorem Bor.sc (b : Bor K F H d v) (h : d.sc = some w) : v = w := by obtain ⟨L, o⟩ := b; exact (o.sc h).1
theorem Rel.scal (r : Rel K F H σD σ R) (h : d.sc = some w) : Rel K F H σD σ ((d, w) :: R) := r.push (Ow.of_sc h)
theorem Bor.int {i : Int} (b : Bor K F H (.int i) v) : v = .int i := b.sc rfl
theorem Bor.bl {i : Bool} (b : Bor K F H (.bl i) v) : v = .bl i := b.sc rfl
theorem Bor.str {i : Str} (b : Bor K F H (.str i) v) : v = .str i := b.sc rfl
end
section
variable {X : Cx} {e : Expr} {es : List Expr} {st : Stmt} {sts : List Stmt}
theorem aO {t t' : TE} (h : PE X e t) (i : ∀ σ H Q, t' σ H Q -> t σ H Q) : PE X e t' := fun aa s σ H Q I h' => h aa s σ H Q I (i σ H Q h')
theorem o5 {t t' : TT} (h : PT X e t) (i : ∀ σ H Q, t' σ H Q -> t σ H Q) : PT X e t' := fun aa s σ H Q I h' => h aa s σ H Q I (i σ H Q h')
theorem yp {t t' : TT} (h : PW X e t) (i : ∀ σ H Q, t' σ H Q -> t σ H Q) : PW X e t' := fun wh aa s σ H Q I h' => h wh aa s σ H Q I (i σ H Q h')
theorem fX {t t' : TA} (h : PA X es t) (i : ∀ σ H Q, t' σ H Q -> t σ H Q) : PA X es t' := fun p aa s σ H Q I h' => h p aa s σ H Q I (i σ H Q h')
theorem jF {t t' : TS} (h : PS X st t) (i : ∀ D σ H, t' D σ H -> t D σ H) : PS X st t' := fun aa s σ H D I h' => h aa s σ H D I (i D σ H h')
theorem p6 {t t' : TS} (h : PSs X sts t) (i : ∀ D σ H, t' D σ H -> t D σ H) : PSs X sts t' := fun aa s σ H D I h' => h aa s σ H D I (i D σ H h')
theorem kz {f : Value -> Value -> Sem Value} {r r' : R2} (h : em X f r) (i : ∀ x y H Q, r' x y H Q -> r x y H Q) : em X f r' := fun aa s σ H x y v u Q I a b h' => h aa s σ H x y v u Q I a b (i x y H Q h')
end
noncomputable abbrev DE := ar -> Option (D × ar)
noncomputable abbrev DP := ar -> Option D
noncomputable abbrev DA := ar -> Option (List D × ar)
noncomputable abbrev DT := ar -> Option (Bool × ar)
inductive Out where
 | nx (σ : ar) | rt (d : D) (σ : ar) | bk (σ : ar) | ct (σ : ar)
noncomputable abbrev DS := ar -> Option Out
noncomputable def rE (K : PySem.W.Frag) (c : DE) : TE := fun σ H Q => ∃ F R σD d σD', Rel K F H σD σ R /\ c σD = some (d, σD') /\ ∀ F' H' v, Ext F H F' H' -> Rel K F' H' σD' σ ((d, v) :: R) -> Q v H'
noncomputable def rB (K : PySem.W.Frag) (c : DP) : TE := fun σ H Q => ∃ F R σD d, Rel K F H σD σ R /\ c σD = some d /\ ∀ F' H' v, Grow F H F' H' -> Bor K F' H' d v -> Q v H'
noncomputable def rA (K : PySem.W.Frag) (c : DA) : TA := fun σ H Q => ∃ F R σD xs σD', Rel K F H σD σ R /\ c σD = some (xs, σD') /\ ∀ F' H' vs, Ext F H F' H' -> xs.length = vs.length -> Rel K F' H' σD' σ (xs.zip vs ++ R) -> Q vs H'
noncomputable def rT (K : PySem.W.Frag) (c : DT) : TT := fun σ H Q => ∃ F R σD b σD', Rel K F H σD σ R /\ c σD = some (b, σD') /\ ∀ F' H', Ext F H F' H' -> Rel K F' H' σD' σ R -> Q b H'
noncomputable def Kp (W : List Nat) (σ σ' : St) : Prop := ∀ k, k ∉ W -> σ'[k]? = σ[k]?
noncomputable def Th (K : PySem.W.Frag) (En : mq) (R : Ro) (F : Addr -> Prop) (H : Hp) (σ : St) : Out -> Prop
 | .nx σD => Rel K F H σD σ R -> En.nx σ H
 | .bk σD => Rel K F H σD σ R -> En.bk σ H
 | .ct σD => Rel K F H σD σ R -> En.ct σ H
 | .rt d σD => ∀ v, Rel K F H σD σ ((d, v) :: R) -> En.rt v H
noncomputable def rS (K : PySem.W.Frag) (c : DS) (W : List Nat) : TS := fun En σ H => ∃ F R σD o, Rel K F H σD σ R /\ c σD = some o /\ ∀ F' H' σ', Ext F H F' H' -> Kp W σ σ' -> Th K En R F' H' σ' o
noncomputable def QE (X : Cx) (e : Expr) (c : DE) : Prop := PE X e (rE X.K c)
noncomputable def QB (X : Cx) (e : Expr) (c : DP) : Prop := PE X e (rB X.K c)
noncomputable def QA (X : Cx) (es : List Expr) (c : DA) : Prop := PA X es (rA X.K c)
noncomputable def QT (X : Cx) (e : Expr) (c : DT) : Prop := PT X e (rT X.K c)
noncomputable def QW (X : Cx) (e : Expr) (c : DT) : Prop := PW X e (rT X.K c)
noncomputable def QS (X : Cx) (st : Stmt) (c : DS) (W : List Nat) : Prop := PS X st (rS X.K c W)
noncomputable def oZ (X : Cx) (sts : List Stmt) (c : DS) (W : List Nat) : Prop := PSs X sts (rS X.K c W)
theorem Kp.refl {W : List Nat} {σ : St} : Kp W σ σ := fun _ _ => rfl
theorem Kp.trans {W : List Nat} {σ σ1 σ2 : St} (a : Kp W σ σ1) (b : Kp W σ1 σ2) : Kp W σ σ2 := fun k h => (b k h).trans (a k h)
theorem Kp.mono {W W' : List Nat} {σ σ' : St} (a : Kp W σ σ') (h : ∀ k ∈ W, k ∈ W') : Kp W' σ σ' := fun k hk => a k fun z => hk (h k z)
theorem Kp.set {σ : St} {i : Nat} {o : Option V} : Kp [i] σ (σ.set i o) := fun k hk => by
 rw [List.getElem?_set_ne]; intro e; exact hk (by simp [e])
noncomputable def dS (p : DP) : DE := fun σ => (p σ).bind fun d => match d.sc with | some _ => some (d, σ) | none => none
noncomputable def bf (σ : ar) (i : Nat) : Option D := match σ[i]? with | some (some d) => some d | _ => none
theorem bm {σ : ar} {i : Nat} {d : D} (h : bf σ i = some d) : σ[i]? = some (some d) := by
 unfold bf at h;split at h
 ·cases h; assumption
 ·cases h
noncomputable def pV (i : Nat) : DP := fun σ => bf σ i
noncomputable def pC (d : D) : DP := fun _ => some d
noncomputable def iK (i : Nat) : DE := fun σ => (bf σ i).map fun d => (d.fz, σ.set i (some d.fz))
noncomputable def tO (i : Nat) : DE := fun σ => (bf σ i).map fun d => (d, σ.set i none)
section
variable {X : Cx} {e a b : Expr} {es : List Expr} {p q : DP} {c c' : DE} {pos : Pos}
theorem ab (h : QB X e p) : QE X e (dS p) := aO h fun σ H Q hq0 => by
 obtain ⟨F, R, σD, d, σD', r, ec, k⟩ := hq0;unfold dS at ec;rcases hp : p σD with _ | x
 ·rw [hp] at ec; cases ec
 ·rw [hp] at ec
  simp only [bind_some] at ec;rcases hs : x.sc with _ | w
  ·rw [hs] at ec; cases ec
  ·rw [hs] at ec; cases ec
   refine ⟨F, R, σD, d, r, hp, fun F' H' v g b => k F' H' v g.x ?_⟩;rw [b.sc hs]; exact (r.grow g).scal hs
theorem ah (i : Nat) {x : Str} {pos : Pos} (hN : autoParam (X.N[i]? = some x) au._auto_1) (hv : autoParam (m7 X.env.scope x) qy._auto_1) (hd : autoParam ((x == ("__debug__" : Str)) = false) cx._auto_1)
  (hcd : autoParam ((x == ("__classdict__" : Str)) = false) cx._auto_1) : QB X (.Name x pos) (pV i) := aO (iu hN hv hd hcd) fun σ H Q hq0 => by
 obtain ⟨F, R, σD, d, r, ec, k⟩ := hq0;obtain ⟨v, hv, b⟩ := r.get (bm ec);exact ⟨v, hv, k F H v Grow.refl b⟩
theorem af {i : Int} {j pos} : QB X (.Constant (.int i) j pos) (pC (.int i)) := aO Ct fun σ H Q hq0 => by
 obtain ⟨F, R, σD, d, r, ec, k⟩ := hq0;cases ec; exact k F H _ Grow.refl ⟨[], Ow.of_sc rfl⟩
theorem D0 {i : Bool} {j pos} : QB X (.Constant (.bool i) j pos) (pC (.bl i)) := aO Ef fun σ H Q hq0 => by
 obtain ⟨F, R, σD, d, r, ec, k⟩ := hq0;cases ec; exact k F H _ Grow.refl ⟨[], Ow.of_sc rfl⟩
theorem aJ {x : Str} {j pos} : QB X (.Constant (.str x) j pos) (pC (.str x)) := aO Cs fun σ H Q hq0 => by
 obtain ⟨F, R, σD, d, r, ec, k⟩ := hq0;cases ec; exact k F H _ Grow.refl ⟨[], Ow.of_sc rfl⟩
theorem bH {α β γ : Type} {o : Option α} {f : α -> β × γ} {d : β} {s : γ} (h : o.map f = some (d, s)) : ∃ x, o = some x /\ f x = (d, s) := by
 cases o with
 | none => cases h
 | some x => exact ⟨x, rfl, Option.some.inj h⟩
theorem fH (i : Nat) {x : Str} {pos : Pos} (hN : autoParam (X.N[i]? = some x) au._auto_1) (hv : autoParam (m7 X.env.scope x) qy._auto_1) (hd : autoParam ((x == ("__debug__" : Str)) = false) cx._auto_1)
  (hcd : autoParam ((x == ("__classdict__" : Str)) = false) cx._auto_1) : QE X (.Name x pos) (iK i) := aO (iu hN hv hd hcd) fun σ H Q hq0 => by
 obtain ⟨F, R, σD, d, σD', r, ec, k⟩ := hq0;obtain ⟨d0, e0, e1⟩ := bH ec;cases e1;obtain ⟨v, hv, r1⟩ := r.take (bm e0);obtain ⟨F', x, r2, o⟩ := r1.freeze;have r3 := (r2.push o).put hv;rw [List.set_set] at r3;exact ⟨v, hv, k F' H v x r3⟩
theorem qP (i : Nat) {x : Str} {pos : Pos} (hN : autoParam (X.N[i]? = some x) au._auto_1) (hv : autoParam (m7 X.env.scope x) qy._auto_1) (hd : autoParam ((x == ("__debug__" : Str)) = false) cx._auto_1)
  (hcd : autoParam ((x == ("__classdict__" : Str)) = false) cx._auto_1) : QE X (.Name x pos) (tO i) := aO (iu hN hv hd hcd) fun σ H Q hq0 => by
 obtain ⟨F, R, σD, d, σD', r, ec, k⟩ := hq0;obtain ⟨d0, e0, e1⟩ := bH ec;cases e1;obtain ⟨v, hv, r1⟩ := r.take (bm e0);exact ⟨v, hv, k F H v Ext.refl r1⟩
structure dG (X : Cx) (f : Value -> Value -> Sem Value) (g : D -> D -> Option D) : Prop where
 run : em X f (fun x y H Q => ∃ F dx dy d w, Bor X.K F H dx x /\ Bor X.K F H dy y /\ g dx dy = some d /\ d.sc = some w /\ Q w H)
 sc : ∀ x y d, g x y = some d -> ∃ w, d.sc = some w
noncomputable def bP (g : D -> D -> Option D) (c c' : DE) : DE := fun σ => (c σ).bind fun p => (c' p.2).bind fun q => (g p.1 q.1).map fun d => (d, q.2)
noncomputable def bh (g : D -> D -> Option D) (p q : DP) : DP := fun σ => (p σ).bind fun x => (q σ).bind fun y => g x y
theorem zq {g : D -> D -> Option D} {σ σ' : ar} {d : D} (h : bP g c c' σ = some (d, σ')) : ∃ x y σ1, c σ = some (x, σ1) /\ c' σ1 = some (y, σ') /\ g x y = some d := by
 unfold bP at h;rcases h1 : c σ with _ | ⟨x, σ1⟩
 ·rw [h1] at h; cases h
 ·rw [h1] at h; simp only [bind_some] at h
  rcases h2 : c' σ1 with _ | ⟨y, σ2⟩
  ·rw [h2] at h; cases h
  ·rw [h2] at h; simp only [bind_some] at h
   obtain ⟨z, e, e2⟩ := bH h;cases e2;exact ⟨x, y, σ1, rfl, h2, e⟩
theorem sy {g : D -> D -> Option D} {σ : ar} {d : D} (h : bh g p q σ = some d) : ∃ x y, p σ = some x /\ q σ = some y /\ g x y = some d := by
 unfold bh at h;rcases h1 : p σ with _ | x
 ·rw [h1] at h; cases h
 ·rw [h1] at h; simp only [bind_some] at h
  rcases h2 : q σ with _ | y
  ·rw [h2] at h; cases h
  ·rw [h2] at h; simp only [bind_some] at h
   exact ⟨x, y, rfl, rfl, h⟩
theorem B2 {f : Value -> Value -> Sem Value} {g : D -> D -> Option D} (o : dG X f g) {σ : St} {H : Hp} {Q : VK} (h : rE X.K (bP g c c') σ H Q) :
  nR (fun x y H Q => ∃ F dx dy d w, Bor X.K F H dx x /\ Bor X.K F H dy y /\ g dx dy = some d /\ d.sc = some w /\ Q w H) (rE X.K c) (rE X.K c') σ H Q := by
 obtain ⟨F, R, σD, d, σD', r, ec, k⟩ := h;obtain ⟨x, y, σ1, e1, e2, eg⟩ := zq ec;obtain ⟨w, hw⟩ := o.sc _ _ _ eg;refine ⟨F, R, σD, x, σ1, r, e1, fun F1 H1 v x1 r1 => ?_⟩;refine ⟨F1, _, σ1, y, σD', r1, e2, fun F2 H2 u x2 r2 => ?_⟩;refine ⟨F2, x, y, d, w, r2.bor (by simp), r2.bor (by simp), eg, hw, k F2 H2 w (x1.trans x2) ?_⟩;exact (r2.pop.pop).scal hw
theorem yL {f : Value -> Value -> Sem Value} {g : D -> D -> Option D} (o : dG X f g) {σ : St} {H : Hp} {Q : VK} (h : rB X.K (bh g p q) σ H Q) :
  nR (fun x y H Q => ∃ F dx dy d w, Bor X.K F H dx x /\ Bor X.K F H dy y /\ g dx dy = some d /\ d.sc = some w /\ Q w H) (rB X.K p) (rB X.K q) σ H Q := by
 obtain ⟨F, R, σD, d, r, ec, k⟩ := h;obtain ⟨x, y, e1, e2, eg⟩ := sy ec;obtain ⟨w, hw⟩ := o.sc _ _ _ eg;refine ⟨F, R, σD, x, r, e1, fun F1 H1 v g1 b1 => ?_⟩;refine ⟨F1, R, σD, y, r.grow g1, e2, fun F2 H2 u g2 b2 => ?_⟩;exact ⟨F2, x, y, d, w, b1.grow g2, b2, eg, hw, k F2 H2 w (g1.trans g2) ⟨[], Ow.of_sc hw⟩⟩
theorem eE {op : Operator} {g : D -> D -> Option D} (o : dG X (binaryOp op) g) (ha : QE X a c) (hb : QE X b c') : QE X (.BinOp a op b pos) (bP g c c') :=
 aO (vV o.run ha hb) fun _ _ _ h => B2 o h
theorem bJ {op : Operator} {g : D -> D -> Option D} (o : dG X (binaryOp op) g) (ha : QB X a p) (hb : QB X b q) : QB X (.BinOp a op b pos) (bh g p q) :=
 aO (vV o.run ha hb) fun _ _ _ h => yL o h
theorem xc {op : CmpOp} {g : D -> D -> Option D} (o : dG X (compareOp op) g) (ha : QE X a c) (hb : QE X b c') (hm : behindInMarks op b = false) : QE X (.Compare a [op] [b] pos) (bP g c c') :=
 aO (pB o.run ha hb hm) fun _ _ _ h => B2 o h
theorem ly {op : CmpOp} {g : D -> D -> Option D} (o : dG X (compareOp op) g) (ha : QB X a p) (hb : QB X b q) (hm : behindInMarks op b = false) : QB X (.Compare a [op] [b] pos) (bh g p q) :=
 aO (pB o.run ha hb hm) fun _ _ _ h => yL o h
noncomputable def gI (C : Int -> Int -> Bool) (f : Int -> Int -> Int) : D -> D -> Option D
 | .int i, .int j => if C i j = true then some (.int (f i j)) else none
 | _, _ => none
noncomputable def kh (f : Int -> Int -> Int) : D -> D -> Option D
 | .int i, .int j => some (.int (f i j))
 | _, _ => none
noncomputable def mS (f : Int -> Int -> Bool) : D -> D -> Option D
 | .int i, .int j => some (.bl (f i j))
 | _, _ => none
theorem mG {f : Value -> Value -> Sem Value} {C : Int -> Int -> Prop} {Cb : Int -> Int -> Bool} {g : Int -> Int -> Int} (h : em X f (rI C fun i j => .int (g i j))) (hC : ∀ i j, Cb i j = true -> C i j) : dG X f (gI Cb g) := by
 refine ⟨kz h fun x y H Q pz => ?_, fun x y d h => ?_⟩
 ·obtain ⟨F, dx, dy, d, w, b1, b2, eg, hw, q⟩ := pz
  unfold gI at eg;split at eg
  ·split at eg
   ·cases eg; cases hw
    exact ⟨_, _, b1.int, b2.int, hC _ _ (by assumption), q⟩
   ·cases eg
  ·cases eg
 ·unfold gI at h
  split at h
  ·split at h
   ·cases h; exact ⟨_, rfl⟩
   ·cases h
  ·cases h
theorem lB {f : Value -> Value -> Sem Value} {g : Int -> Int -> Int} (h : em X f (kU fun i j => .int (g i j))) : dG X f (kh g) := by
 refine ⟨kz h fun x y H Q pz => ?_, fun x y d h => ?_⟩
 ·obtain ⟨F, dx, dy, d, w, b1, b2, eg, hw, q⟩ := pz
  unfold kh at eg;split at eg
  ·cases eg; cases hw
   exact ⟨_, _, b1.int, b2.int, q⟩
  ·cases eg
 ·unfold kh at h
  split at h
  ·cases h; exact ⟨_, rfl⟩
  ·cases h
theorem sC {f : Value -> Value -> Sem Value} {g : Int -> Int -> Bool} (h : em X f (kU fun i j => .bl (g i j))) : dG X f (mS g) := by
 refine ⟨kz h fun x y H Q pz => ?_, fun x y d h => ?_⟩
 ·obtain ⟨F, dx, dy, d, w, b1, b2, eg, hw, q⟩ := pz
  unfold mS at eg;split at eg
  ·cases eg; cases hw
   exact ⟨_, _, b1.int, b2.int, q⟩
  ·cases eg
 ·unfold mS at h
  split at h
  ·cases h; exact ⟨_, rfl⟩
  ·cases h
theorem iO : dG X (binaryOp .Add) (kh fun i j => i + j) := lB CF
theorem qR : dG X (binaryOp .Sub) (kh fun i j => i - j) := lB Cv
theorem zS : dG X (binaryOp .BitAnd) (kh Builtin.bitAnd) := lB CD
theorem Fs : dG X (binaryOp .BitOr) (kh Builtin.bitOr) := lB Eg
theorem mH : dG X (binaryOp .Mod) (gI (fun _ j => decide (0 < j)) fun i j => i % j) := mG CC fun i j h => by simpa using h
theorem qS : dG X (binaryOp .Pow) (gI (fun i j => decide (0 <= j /\ j <= 1000000 /\ i.natAbs < 2 ^ 64)) fun i j => i ^ j.toNat) := mG CA fun i j h => by simpa [wx] using h
theorem vZ : dG X (binaryOp .LShift) (gI (fun i j => decide (0 <= j /\ j <= 1000000 /\ i.natAbs < 2 ^ 64)) fun i j => i * 2 ^ j.toNat) := mG Cy fun i j h => by simpa [wx] using h
theorem El : dG X (binaryOp .RShift) (gI (fun _ j => decide (0 <= j)) fun i j => i / 2 ^ j.toNat) := mG Cw fun i j h => by simpa using h
theorem nG : dG X (compareOp .Lt) (mS fun i j => decide (i < j)) := sC Eh
theorem yY : dG X (compareOp .Gt) (mS fun i j => decide (j < i)) := sC Ei
theorem CJ : dG X (compareOp .GtE) (mS fun i j => decide (j <= i)) := sC Ej
noncomputable def bX : DA := fun σ => some ([], σ)
noncomputable def aD (c : DE) (ca : DA) : DA := fun σ => (c σ).bind fun p => (ca p.2).map fun q => (p.1 :: q.1, q.2)
theorem bO : QA X [] bX := fX dQ fun σ H Q hq0 => by
 obtain ⟨F, R, σD, xs, σD', r, ec, k⟩ := hq0;cases ec; exact k F H [] Ext.refl rfl r
theorem aN {ca : DA} (ha : QE X e c) (hr : QA X es ca) (hs : autoParam (starEach (e :: es) X.env = (false, eval e X.env) :: starEach es X.env) au._auto_1) : QA X (e :: es) (aD c ca) := fX (cE ha hr hs) fun σ H Q hq0 => by
 obtain ⟨F, R, σD, xs, σD', r, ec, k⟩ := hq0;unfold aD at ec;rcases h1 : c σD with _ | ⟨x, σ1⟩
 ·rw [h1] at ec; cases ec
 ·rw [h1] at ec; simp only [bind_some] at ec
  obtain ⟨⟨ys, σ2⟩, e2, e3⟩ := bH ec;cases e3;refine ⟨F, R, σD, x, σ1, r, h1, fun F1 H1 v x1 r1 => ?_⟩;refine ⟨F1, _, σ1, ys, σ2, r1, e2, fun F2 H2 vs x2 hl r2 => ?_⟩;refine k F2 H2 (v :: vs) (x1.trans x2) (by simp [hl]) (r2.perm ?_);exact List.perm_middle
noncomputable def eC (ca : DA) : DE := fun σ => (ca σ).bind fun p => if p.1.length <= sizeLine then some (.lst true p.1, p.2) else none
noncomputable def jy (ca : DA) : DE := fun σ => (ca σ).bind fun p => if p.1.length <= sizeLine then some (.tup p.1, p.2) else none
theorem dB {ca : DA} (h : QA X es ca) : QE X (.List es pos) (eC ca) := aO (xm h) fun σ H Q hq0 => by
 obtain ⟨F, R, σD, d, σD', r, ec, k⟩ := hq0;unfold eC at ec;rcases h1 : ca σD with _ | ⟨xs, σ1⟩
 ·rw [h1] at ec; cases ec
 ·rw [h1] at ec; simp only [bind_some] at ec
  split at ec
  ·rename_i hz
   cases ec;refine ⟨F, R, σD, xs, _, r, h1, fun F1 H1 vs x1 hl r1 => ⟨by rw [<- hl]; exact hz, fun p hp => ?_⟩⟩;obtain ⟨r2, x2⟩ := r1.layL hl hp;exact k F1 _ _ (x1.trans x2) r2
  ·cases ec
theorem lr {ca : DA} {x1} (h : QA X es ca) : QE X (.Tuple es x1 pos) (jy ca) := aO (Cr h) fun σ H Q hq0 => by
 obtain ⟨F, R, σD, d, σD', r, ec, k⟩ := hq0;unfold jy at ec;rcases h1 : ca σD with _ | ⟨xs, σ1⟩
 ·rw [h1] at ec; cases ec
 ·rw [h1] at ec; simp only [bind_some] at ec
  split at ec
  ·rename_i hz
   cases ec;refine ⟨F, R, σD, xs, _, r, h1, fun F1 H1 vs x1 hl r1 => ⟨by rw [<- hl]; exact hz, fun p hp => ?_⟩⟩;obtain ⟨F2, x2, r2⟩ := r1.layT hl hp;exact k F2 _ _ (x1.trans x2) r2
  ·cases ec
end
section
variable {K : PySem.W.Frag} {F F' : Addr -> Prop} {H H' : Hp} {d x : D} {v w : V} {L : List Addr} {R : Ro} {σD : ar} {σ : St} {xs : List D} {vs : List V}
theorem OwL.length : ∀ {xs : List D} {vs : List V} {L : List Addr}, OwL K F H xs vs L -> vs.length = xs.length := fun h => h.toP.1.symm
theorem OwL.kid : ∀ {xs : List D} {vs : List V} {L : List Addr} {j : Nat}, OwL K F H xs vs L -> xs[j]? = some x -> ∃ w La Lx Lb, vs[j]? = some w /\ L = La ++ Lx ++ Lb /\ Ow K F H x w Lx /\
  ∀ (F' : Addr -> Prop) (H' : Hp) (x' : D) (Lx' : List Addr), Ext F H F' H' -> (∀ a ∈ La ++ Lb, H' a = H a) -> Ow K F' H' x' w Lx' -> OwL K F' H' (xs.set j x') vs (La ++ Lx' ++ Lb) := by
 intro xs
 induction xs with
 | nil => intro vs L j h e; simp at e
 | cons y ys ih =>
  intro vs L j h e;simp only [OwL] at h;obtain ⟨u, ws, L1, L2, rfl, h1, h2, rfl⟩ := h;cases j with
  | zero =>
   simp at e; subst e;refine ⟨u, [], L1, L2, rfl, rfl, h1, fun F' H' x' Lx' x k o => ?_⟩;simp only [List.set_cons_zero, OwL];exact ⟨u, ws, Lx', L2, rfl, o, h2.mono x fun a ha => k a (by simp [ha]), rfl⟩
  | succ j =>
   obtain ⟨w, La, Lx, Lb, e1, rfl, o, k⟩ := ih (j := j) h2 (by simpa using e);refine ⟨w, L1 ++ La, Lx, Lb, by simpa using e1, by simp, o, fun F' H' x' Lx' x kk o' => ?_⟩;simp only [List.set_cons_succ, OwL];exact ⟨u, ws, L1, La ++ Lx' ++ Lb, rfl, h1.mono x fun a ha => kk a (by simp [ha]), k F' H' x' Lx' x (fun a ha => kk a (by simp at ha ⊢; rcases ha with ha | ha <;> simp [ha])) o', by simp⟩
theorem OwL.get (h : OwL K F H xs vs L) {j : Nat} (e : xs[j]? = some x) : ∃ w, vs[j]? = some w /\ Bor K F H x w := by
 obtain ⟨w, _, Lx, _, e1, _, o, _⟩ := h.kid e;exact ⟨w, e1, Lx, o⟩
theorem OwL.at (h : OwL K F H xs vs L) {i : Int} (e : atI xs i = some x) : ∃ w, atI vs i = some w /\ Bor K F H x w := by
 unfold atI at e ⊢;rw [h.length];rcases hj : ixN xs.length i with _ | j
 ·rw [hj] at e; cases e
 ·rw [hj] at e; exact h.get e
theorem Bor.lst {o : Bool} (b : Bor K F H (.lst o xs) v) : ∃ a vs, v = .ref a /\ cZ K H a vs /\ ∃ L, OwL K F H xs vs L := by
 obtain ⟨L, h⟩ := b;cases o
 ·simp only [Ow] at h
  obtain ⟨a, vs, rfl, f, r, _⟩ := h;exact ⟨a, vs, rfl, f.sq, _, r⟩
 ·simp only [Ow] at h
  obtain ⟨a, vs, L', rfl, e, r, _⟩ := h;exact ⟨a, vs, rfl, .inl (.inl e), _, r⟩
theorem Bor.tup (b : Bor K F H (.tup xs) v) : ∃ a vs, v = .ref a /\ t6 K H a vs /\ ∃ L, OwL K F H xs vs L := by
 obtain ⟨L, h⟩ := b;simp only [Ow] at h;obtain ⟨a, vs, rfl, f, r⟩ := h;exact ⟨a, vs, rfl, f.sq, _, r⟩
noncomputable def dJ : D -> D -> Option D
 | .lst _ xs, .int i => atI xs i
 | .tup xs, .int i => atI xs i
 | .str z, .int i => if z.length <= sizeLine then (atI z.cps.toList i).map fun c => .str ⟨#[c]⟩ else none
 | _, _ => none
end
section
variable {X : Cx} {e a b : Expr} {es : List Expr} {p q : DP} {c c' : DE} {pos : Pos}
theorem B3 {F : Addr -> Prop} {H : Hp} {dx dy d : D} {x y : V} {Q : VK} (b1 : Bor X.K F H dx x) (b2 : Bor X.K F H dy y) (e : dJ dx dy = some d) (k : ∀ v, Bor X.K F H d v -> Q v H) : EN X.K x y H Q := by
 unfold dJ at e;split at e
 ·obtain ⟨a, vs, rfl, s, L, r⟩ := b1.lst
  obtain ⟨w, e1, bw⟩ := r.at e;exact .inl ⟨a, vs, _, w, rfl, b2.int, s, e1, k w bw⟩
 ·obtain ⟨a, vs, rfl, s, L, r⟩ := b1.tup
  obtain ⟨w, e1, bw⟩ := r.at e;exact .inr (.inl ⟨a, vs, _, w, rfl, b2.int, s, e1, k w bw⟩)
 ·split at e
  ·rename_i z i hz
   rcases h : atI z.cps.toList i with _ | ch
   ·rw [h] at e; cases e
   ·rw [h] at e; cases e
    exact .inr (.inr ⟨z, i, ch, b1.str, b2.int, hz, h, k _ ⟨[], Ow.of_sc rfl⟩⟩)
  ·cases e
 ·cases e
theorem cW (ha : QB X a p) (hb : QB X b q) (hs : autoParam (i4 b) jP._auto_1) : QB X (.Subscript a b pos) (bh dJ p q) := aO (vX tx ha hb hs) fun σ H Q hq0 => by
 obtain ⟨F, R, σD, d, r, ec, k⟩ := hq0;obtain ⟨x, y, e1, e2, eg⟩ := sy ec;refine ⟨F, R, σD, x, r, e1, fun F1 H1 v g1 b1 => ?_⟩;refine ⟨F1, R, σD, y, r.grow g1, e2, fun F2 H2 u g2 b2 => ?_⟩;exact B3 (b1.grow g2) b2 eg fun v bv => k F2 H2 v (g1.trans g2) bv
noncomputable def tP (c c' : DE) : DE := fun σ => (c σ).bind fun p => (c' p.2).bind fun q => (dJ p.1 q.1).map fun d => (d, q.2)
end
noncomputable def aL (c : DE) : DT := fun σ => (c σ).bind fun p => match p.1 with | .bl b => some (b, p.2) | _ => none
noncomputable def kC (t u : DT) : DT := fun σ => (t σ).bind fun p => if p.1 = true then u p.2 else some (false, p.2)
noncomputable def gm (t u : DT) : DT := fun σ => (t σ).bind fun p => if p.1 = true then some (true, p.2) else u p.2
noncomputable def fF (t : DT) : DT := fun σ => (t σ).map fun p => (!p.1, p.2)
section
variable {X : Cx} {e a b : Expr} {es cO : List Expr} {p q : DP} {c c' : DE} {t u : DT} {pos : Pos}
theorem kQ {σ σ' : ar} {k : Bool} (h : aL c σ = some (k, σ')) : c σ = some (.bl k, σ') := by
 unfold aL at h;rcases h1 : c σ with _ | ⟨x, σ1⟩
 ·rw [h1] at h; cases h
 ·rw [h1] at h; simp only [bind_some] at h
  split at h
  ·cases h; rfl
  ·cases h
theorem gn (h : QE X e c) (he : autoParam (∀ whole, isTrue e X.env whole = (do let v <- whole; standAt e.pos; holding [v] (truthy v))) li._auto_1) : QT X e (aL c) := o5 (Cg h he) fun σ H Q hq0 => by
 obtain ⟨F, R, σD, k, σD', r, ec, kk⟩ := hq0;refine ⟨F, R, σD, _, σD', r, kQ ec, fun F' H' v x r' => ⟨k, (r'.bor (by simp)).bl, kk F' H' x r'.pop⟩⟩
theorem br {op : CmpOp} {g : D -> D -> Option D} (o : dG X (compareOp op) g) (ha : QE X a c) (hb : QE X b c') (hm : behindInMarks op b = false) : QT X (.Compare a [op] [b] pos) (aL (bP g c c')) :=
 o5 (uO o.run ha hb hm) fun σ H Q hq0 => by
  obtain ⟨F, R, σD, k, σD', r, ec, kk⟩ := hq0;show nR _ _ _ σ H _;exact B2 o ⟨F, R, σD, _, σD', r, kQ ec, fun F' H' v x r' => ⟨k, (r'.bor (by simp)).bl, kk F' H' x r'.pop⟩⟩
theorem gJ (h : QT X e t) : QT X (.UnaryOp .Not e pos) (fF t) := o5 (Ch h) fun σ H Q hq0 => by
 obtain ⟨F, R, σD, k, σD', r, ec, kk⟩ := hq0;unfold fF at ec;obtain ⟨⟨b, σ1⟩, e1, e2⟩ := bH ec;cases e2;exact ⟨F, R, σD, b, σ1, r, e1, fun F' H' x r' => kk F' H' x r'⟩
theorem kI (h : QW X e t) : QT X e t := h.pt
theorem uK (h : QT X a t) : QW X (.BoolOp .And [a] pos) t := AU h
theorem jg (h : QT X a t) : QW X (.BoolOp .Or [a] pos) t := Ce h
theorem wU (ha : QT X a t) (hb : QW X (.BoolOp .And (b :: cO) pos) u) : QW X (.BoolOp .And (a :: b :: cO) pos) (kC t u) := yp (Cf ha hb) fun σ H Q hq0 => by
 obtain ⟨F, R, σD, k, σD', r, ec, kk⟩ := hq0;unfold kC at ec;rcases h1 : t σD with _ | ⟨x, σ1⟩
 ·rw [h1] at ec; cases ec
 ·rw [h1] at ec; simp only [bind_some] at ec
  refine ⟨F, R, σD, x, σ1, r, h1, fun F' H' x1 r' => ?_⟩;cases x
  ·simp only [Bool.false_eq_true, if_false] at ec ⊢
   cases ec;exact kk F' H' x1 r'
  ·simp only [if_true] at ec ⊢
   exact ⟨F', R, σ1, k, σD', r', ec, fun F2 H2 x2 r2 => kk F2 H2 (x1.trans x2) r2⟩
theorem hZ (ha : QT X a t) (hb : QW X (.BoolOp .Or (b :: cO) pos) u) : QW X (.BoolOp .Or (a :: b :: cO) pos) (gm t u) := yp (Ea ha hb) fun σ H Q hq0 => by
 obtain ⟨F, R, σD, k, σD', r, ec, kk⟩ := hq0;unfold gm at ec;rcases h1 : t σD with _ | ⟨x, σ1⟩
 ·rw [h1] at ec; cases ec
 ·rw [h1] at ec; simp only [bind_some] at ec
  refine ⟨F, R, σD, x, σ1, r, h1, fun F' H' x1 r' => ?_⟩;cases x
  ·simp only [Bool.false_eq_true, if_false] at ec ⊢
   exact ⟨F', R, σ1, k, σD', r', ec, fun F2 H2 x2 r2 => kk F2 H2 (x1.trans x2) r2⟩
  ·simp only [if_true] at ec ⊢
   cases ec;exact kk F' H' x1 r'
end
noncomputable def cy : DS := fun σ => some (.nx σ)
noncomputable def aE (c d : DS) : DS := fun σ => (c σ).bind fun o => match o with | .nx σ' => d σ' | o => some o
noncomputable def bN (i : Nat) (c : DE) : DS := fun σ => (c σ).bind fun p => if i < p.2.length then some (.nx (p.2.set i (some p.1))) else none
noncomputable def dr (t : DT) (c d : DS) : DS := fun σ => (t σ).bind fun p => if p.1 = true then c p.2 else d p.2
noncomputable def bV (c : DE) : DS := fun σ => (c σ).map fun p => .rt p.1 p.2
noncomputable def hV (c : DE) : DS := fun σ => (c σ).map fun p => .nx p.2
noncomputable def dZ : DS := fun _ => none
section
variable {X : Cx} {e a b : Expr} {st : Stmt} {sts : List Stmt} {c c' : DE} {s s' : DS} {t u : DT} {pos : Pos} {W W' : List Nat}
theorem bK : oZ X [] cy [] := p6 AW fun En σ H hq0 => by
 obtain ⟨F, R, σD, o, r, ec, k⟩ := hq0;cases ec; exact k F H σ Ext.refl Kp.refl r
theorem aj (h1 : QS X st s W) (h2 : oZ X sts s' W') : oZ X (st :: sts) (aE s s') (W ++ W') := p6 (yP h1 h2) fun En σ H hq0 => by
 obtain ⟨F, R, σD, o, r, ec, k⟩ := hq0;unfold aE at ec;rcases h : s σD with _ | o1
 ·rw [h] at ec; cases ec
 ·rw [h] at ec; simp only [bind_some] at ec
  refine ⟨F, R, σD, o1, r, h, fun F1 H1 σ1 x1 kp1 => ?_⟩;have kp1' : Kp (W ++ W') σ σ1 := kp1.mono fun k hk => by simp [hk]
  cases o1 with
  | nx σ2 =>
   intro r1;refine ⟨F1, R, σ2, o, r1, ec, fun F2 H2 σ3 x2 kp2 => ?_⟩;exact k F2 H2 σ3 (x1.trans x2) (kp1'.trans (kp2.mono fun k hk => by simp [hk]))
  | bk σ2 => cases ec; exact k F1 H1 σ1 x1 kp1'
  | ct σ2 => cases ec; exact k F1 H1 σ1 x1 kp1'
  | rt d σ2 => cases ec; exact k F1 H1 σ1 x1 kp1'
theorem ao (h1 : QS X st s W) : oZ X [st] s W := AV h1
theorem cr : oZ X sts dZ [] := p6 xg fun En σ H hq0 => by obtain ⟨F, R, σD, o, r, ec, k⟩ := hq0; cases ec
theorem bg (i : Nat) {x : Str} {pos' : Pos} (hN : X.N.Nodup) (he : QE X e c) (hi : autoParam (X.N[i]? = some x) au._auto_1) (hx : autoParam (o6 X.env.scope x) Ap._auto_1) (hs : autoParam (swapsWith e (some (.Name x pos')) pos.line X.env = pure false) au._auto_1) (hf : autoParam (X.fn x = true \/ X.env.scope.names.lookup x = some .local) o7._auto_1) :
  QS X (.Assign [.Name x pos'] e pos) (bN i c) [i] := jF (Ci hN hi hx he hs hf) fun En σ H hq0 => by
 obtain ⟨F, R, σD, o, r, ec, k⟩ := hq0;unfold bN at ec;rcases h : c σD with _ | ⟨d, σ1⟩
 ·rw [h] at ec; cases ec
 ·rw [h] at ec; simp only [bind_some] at ec
  split at ec
  ·rename_i hl
   cases ec;refine ⟨F, R, σD, d, σ1, r, h, fun F1 H1 v x1 r1 => ?_⟩;exact k F1 H1 _ x1 Kp.set (r1.store (by rw [<- r1.mt.length]; exact hl))
  ·cases ec
theorem cu {as bs : List Stmt} (ht : QT X e t) (ha : oZ X as s W) (hb : oZ X bs s' W') : QS X (.If e as bs pos) (dr t s s') (W ++ W') := jF (Eb ht ha hb) fun En σ H hq0 => by
 obtain ⟨F, R, σD, o, r, ec, k⟩ := hq0;unfold dr at ec;rcases h : t σD with _ | ⟨x, σ1⟩
 ·rw [h] at ec; cases ec
 ·rw [h] at ec; simp only [bind_some] at ec
  refine ⟨F, R, σD, x, σ1, r, h, fun F1 H1 x1 r1 => ?_⟩;cases x
  ·simp only [Bool.false_eq_true, if_false] at ec ⊢
   exact ⟨F1, R, σ1, o, r1, ec, fun F2 H2 σ2 x2 kp => k F2 H2 σ2 (x1.trans x2) (kp.mono fun k hk => by simp [hk])⟩
  ·simp only [if_true] at ec ⊢
   exact ⟨F1, R, σ1, o, r1, ec, fun F2 H2 σ2 x2 kp => k F2 H2 σ2 (x1.trans x2) (kp.mono fun k hk => by simp [hk])⟩
theorem aZ (he : QE X e c) : QS X (.Return (some e) pos) (bV c) [] := jF (Cj he) fun En σ H hq0 => by
 obtain ⟨F, R, σD, o, r, ec, k⟩ := hq0;unfold bV at ec;rcases h : c σD with _ | ⟨d, σ1⟩
 ·rw [h] at ec; cases ec
 ·rw [h] at ec; cases ec
  exact ⟨F, R, σD, d, σ1, r, h, fun F1 H1 v x1 r1 => k F1 H1 σ x1 Kp.refl v r1⟩
theorem iW (he : QE X e c) (hs : autoParam (swapsWith e none pos.line X.env = pure false) au._auto_1) : QS X (.Expr e pos) (hV c) [] := jF (AX he hs) fun En σ H hq0 => by
 obtain ⟨F, R, σD, o, r, ec, k⟩ := hq0;unfold hV at ec;rcases h : c σD with _ | ⟨d, σ1⟩
 ·rw [h] at ec; cases ec
 ·rw [h] at ec; cases ec
  exact ⟨F, R, σD, d, σ1, r, h, fun F1 H1 v x1 r1 => k F1 H1 σ x1 Kp.refl r1.pop⟩
end
noncomputable abbrev DG := D -> ar -> Option ar
noncomputable def rG (K : PySem.W.Frag) (g : DG) (W : List Nat) : TG := fun v σ H Q => ∃ F R σD d σD', Rel K F H σD σ ((d, v) :: R) /\ g d σD = some σD' /\ ∀ F' H' σ', Ext F H F' H' -> Kp W σ σ' -> Rel K F' H' σD' σ' R -> Q σ' H'
noncomputable def QG (X : Cx) (tg : Expr) (g : DG) (W : List Nat) : Prop := PG X tg (rG X.K g W)
theorem t9 {X : Cx} {tg : Expr} {t t' : TG} (h : PG X tg t) (i : ∀ v σ H Q, t' v σ H Q -> t v σ H Q) : PG X tg t' := fun aa s σ H v u Q I rv h' => h aa s σ H v u Q I rv (i v σ H Q h')
noncomputable abbrev qx := List D -> ar -> Option ar
noncomputable def Gc (K : PySem.W.Frag) (g : qx) (W : List Nat) : oY := fun vs σ H Q => ∃ F R σD ds σD', ds.length = vs.length /\ Rel K F H σD σ (ds.zip vs ++ R) /\ g ds σD = some σD' /\ ∀ F' H' σ', Ext F H F' H' -> Kp W σ σ' -> Rel K F' H' σD' σ' R -> Q σ' H'
noncomputable def Ah (X : Cx) (ts : List Expr) (g : qx) (W : List Nat) : Prop := t8 X ts (Gc X.K g W)
theorem vt {X : Cx} {ts : List Expr} {t t' : oY} (h : t8 X ts t) (i : ∀ v σ H Q, t' v σ H Q -> t v σ H Q) : t8 X ts t' := fun aa s σ H v u Q I rv h' => h aa s σ H v u Q I rv (i v σ H Q h')
noncomputable def dF (i : Nat) : DG := fun d σ => if i < σ.length then some (σ.set i (some d)) else none
noncomputable def gT : qx := fun ds σ => match ds with | [] => some σ | _ => none
noncomputable def cL (g : DG) (gs : qx) : qx := fun ds σ => match ds with | d :: r => (g d σ).bind fun σ' => gs r σ' | [] => none
noncomputable def gg (n : Nat) (gs : qx) : DG := fun d σ => match d with | .tup xs => if xs.length = n then gs xs σ else none | _ => none
section
variable {X : Cx} {e tg : Expr} {ts : List Expr} {g : DG} {gs : qx} {pos : Pos} {W W' : List Nat}
theorem bW (i : Nat) {x : Str} {pos : Pos} (hN : X.N.Nodup) (hi : autoParam (X.N[i]? = some x) au._auto_1) (hx : autoParam (o6 X.env.scope x) Ap._auto_1) (hf : autoParam (X.fn x = true \/ X.env.scope.names.lookup x = some .local) o7._auto_1) :
  QG X (.Name x pos) (dF i) [i] := t9 (A6 hN hi hx hf) fun v σ H Q hq0 => by
 obtain ⟨F, R, σD, d, σD', r, ec, k⟩ := hq0;unfold dF at ec;split at ec
 ·rename_i hl
  cases ec;exact k F H _ Ext.refl Kp.set (r.store (by rw [<- r.mt.length]; exact hl))
 ·cases ec
theorem iX : Ah X [] gT [] := vt A5 fun vs σ H Q hq0 => by
 obtain ⟨F, R, σD, ds, σD', hl, r, ec, k⟩ := hq0;cases ds with
 | nil => cases ec; exact ⟨List.length_eq_zero_iff.mp hl.symm, k F H σ Ext.refl Kp.refl (by simpa using r)⟩
 | cons d ds => cases ec
theorem dw (h1 : QG X e g W) (h2 : Ah X ts gs W') (hs : autoParam ((assignEach (e :: ts) X.env).map (·.2) = assign e X.env :: (assignEach ts X.env).map (·.2)) au._auto_1) : Ah X (e :: ts) (cL g gs) (W ++ W') :=
 vt (yR h1 h2 hs) fun vs σ H Q hq0 => by
  obtain ⟨F, R, σD, ds, σD', hl, r, ec, k⟩ := hq0;cases ds with
  | nil => cases ec
  | cons d ds =>
   cases vs with
   | nil => simp at hl
   | cons v vs =>
    simp only [cL] at ec;rcases h : g d σD with _ | σ1
    ·rw [h] at ec; cases ec
    ·rw [h] at ec; simp only [bind_some] at ec
     refine ⟨v, vs, rfl, F, ds.zip vs ++ R, σD, d, σ1, by simpa using r, h, fun F1 H1 σ2 x1 kp1 r1 => ?_⟩;exact ⟨F1, R, σ1, ds, σD', by simpa using hl, r1, ec, fun F2 H2 σ3 x2 kp2 r2 => k F2 H2 σ3 (x1.trans x2) ((kp1.mono fun k hk => by simp [hk]).trans (kp2.mono fun k hk => by simp [hk])) r2⟩
theorem ke {n : Nat} {k : Nat} (hc : X.calm = true) (h : Ah X ts gs W) (hn : autoParam ((assignEach ts X.env).length = n) au._auto_1) (hst : autoParam ((assignEach ts X.env).findIdx? (·.1) = none) au._auto_1) : QG X (.Tuple ts k pos) (gg n gs) W :=
 t9 (Co hc h hn hst) fun v σ H Q hq0 => by
  obtain ⟨F, R, σD, d, σD', r, ec, k⟩ := hq0;unfold gg at ec;split at ec
  ·rename_i xs
   split at ec
   ·rename_i hxn
    obtain ⟨a, vs, rfl, ft, hl, r1⟩ := r.openT;exact ⟨a, vs, rfl, ft.sq, by rw [<- hl]; exact hxn, F, R, σD, xs, σD', hl, r1, ec, k⟩
   ·cases ec
  ·cases ec
noncomputable def pw (c : DE) (g : DG) : DS := fun σ => (c σ).bind fun p => (g p.1 p.2).map .nx
theorem wW {c : DE} (he : QE X e c) (hg : QG X tg g W) (hs : autoParam (swapsWithSole [tg] e pos.line X.env = pure false) au._auto_1) (hw : autoParam (swappedStores [tg] e X.env = pure none) au._auto_1)
  (h1 : autoParam ((assignEach [tg] X.env).map (·.2) = [assign tg X.env]) au._auto_1) : QS X (.Assign [tg] e pos) (pw c g) W := jF (Cl he hg hs hw h1) fun En σ H hq0 => by
 obtain ⟨F, R, σD, o, r, ec, k⟩ := hq0;unfold pw at ec;rcases h : c σD with _ | ⟨d, σ1⟩
 ·rw [h] at ec; cases ec
 ·rw [h] at ec; simp only [bind_some] at ec
  rcases h2 : g d σ1 with _ | σ2
  ·rw [h2] at ec; cases ec
  ·rw [h2] at ec; cases ec
   refine ⟨F, R, σD, d, σ1, r, h, fun F1 H1 v x1 r1 => ?_⟩;exact ⟨F1, R, σ1, d, σ2, r1, h2, fun F2 H2 σ3 x2 kp r2 => k F2 H2 σ3 (x1.trans x2) kp r2⟩
end
noncomputable def eI (g : DG) (b : DS) : List D -> ar -> Option Out
 | [], σ => some (.nx σ)
 | x :: xs, σ => (g x σ).bind fun σ1 => (b σ1).bind fun o => match o with
  | .nx σ2 => eI g b xs σ2
  | .ct σ2 => eI g b xs σ2
  | .bk σ2 => some (.nx σ2)
  | .rt d σ2 => some (.rt d σ2)
noncomputable def jf (lo hi : Int) : List D := (List.range (hi - lo).toNat).map fun (k : Nat) => D.int (lo + k)
noncomputable def sk (i : Int) : Bool := decide (-(2 ^ 62) <= i /\ i < 2 ^ 62)
section
variable {X : Cx} {e tg : Expr} {ts : List Expr} {g : DG} {c : DE} {s : DS} {pos : Pos} {W W' : List Nat} {body : List Stmt}
theorem Ax {F0 F : Addr -> Prop} {H0 H : Hp} {R R0 : Ro} {σD : ar} {σ0 σ : St} {x : D} {v : V} {xs : List D} {En : mq} {N : St -> Hp -> Prop} {o : Out} (hR : ∀ F' H', Ext F H F' H' -> ∀ σD' σ' S, Rel X.K F' H' σD' σ' (S ++ R) -> Rel X.K F' H' σD' σ' (S ++ R0))
  (r : Rel X.K F H σD σ ((x, v) :: R)) (x0 : Ext F0 H0 F H) (kp : Kp (W ++ W') σ0 σ) (h : eI g s (x :: xs) σD = some o)
  (k : ∀ F' H' σ', Ext F0 H0 F' H' -> Kp (W ++ W') σ0 σ' -> Th X.K En R0 F' H' σ' o)
  (hN : ∀ F' H' σD' σ', Ext F H F' H' -> Kp (W ++ W') σ0 σ' -> Rel X.K F' H' σD' σ' R -> eI g s xs σD' = some o -> N σ' H') :
  rG X.K g W v σ H fun σ2 H2 => rS X.K s W' { En with nx := N, ct := N, bk := En.nx } σ2 H2 := by
 simp only [eI] at h;rcases h1 : g x σD with _ | σ1
 ·rw [h1] at h; cases h
 ·rw [h1] at h; simp only [bind_some] at h
  rcases h2 : s σ1 with _ | o1
  ·rw [h2] at h; cases h
  ·rw [h2] at h; simp only [bind_some] at h
   refine ⟨F, R, σD, x, σ1, r, h1, fun F1 H1 σ2 x1 kp1 r1 => ?_⟩;refine ⟨F1, R, σ1, o1, r1, h2, fun F2 H2 σ3 x2 kp2 => ?_⟩;have kp3 : Kp (W ++ W') σ0 σ3 := (kp.trans (kp1.mono fun k hk => by simp [hk])).trans (kp2.mono fun k hk => by simp [hk]);cases o1 with
   | nx σ4 => exact fun r2 => hN F2 H2 σ4 σ3 (x1.trans x2) kp3 r2 h
   | ct σ4 => exact fun r2 => hN F2 H2 σ4 σ3 (x1.trans x2) kp3 r2 h
   | bk σ4 =>
    cases h;exact fun r2 => k F2 H2 σ3 (x0.trans (x1.trans x2)) kp3 (hR F2 H2 (x1.trans x2) _ _ [] r2)
   | rt d σ4 =>
    cases h;exact fun v r2 => k F2 H2 σ3 (x0.trans (x1.trans x2)) kp3 v (hR F2 H2 (x1.trans x2) _ _ [(d, v)] r2)
end
noncomputable abbrev GF := List D -> Option (D × List D)
noncomputable def cP (K : PySem.W.Frag) (n : Nat) (g : GF) : Sp := fun vs H Q _ => vs.length = n /\ ∃ F R ds r ds', ds.length = vs.length /\ G K F H (ds.zip vs ++ R) /\ g ds = some (r, ds') /\
 ∀ F' H' v, Ext F H F' H' -> ds'.length = vs.length -> G K F' H' ((r, v) :: (ds'.zip vs ++ R)) -> Q v H'
noncomputable def la (W : List Nat) : Nat -> List D -> List D
 | _, [] => []
 | k, d :: ds => (if k ∈ W then d.fz else d) :: la W (k + 1) ds
noncomputable def gK (W : List Nat) (σ : ar) : Nat -> List D -> List D
 | _, [] => []
 | k, d :: ds => (if k ∈ W then d.fz else (bf σ k).getD .hole) :: gK W σ (k + 1) ds
noncomputable def df (N : Nat) (W : List Nat) (c : DS) : GF := fun ds => (c ((la W 0 ds).map some ++ List.replicate (N - ds.length) none)).bind fun o => match o with
 | .rt d σ => some (d, gK W σ 0 ds)
 | .nx σ => some (.non, gK W σ 0 ds)
 | _ => none
section
variable {K : PySem.W.Frag} {F F' : Addr -> Prop} {H H' : Hp}
noncomputable def mT (W : List Nat) : Nat -> List D -> List V -> Ro
 | k, d :: ds, v :: vs => if k ∈ W then (d.fz, v) :: mT W (k + 1) ds vs else mT W (k + 1) ds vs
 | _, _, _ => []
theorem oj (W : List Nat) : ∀ (k : Nat) (ds : List D), (la W k ds).length = ds.length
 | _, [] => rfl
 | k, d :: ds => by simp [la, oj W (k + 1) ds]
theorem jU (W : List Nat) (σ : ar) : ∀ (k : Nat) (ds : List D), (gK W σ k ds).length = ds.length
 | _, [] => rfl
 | k, d :: ds => by simp [gK, jU W σ (k + 1) ds]
theorem pull {α : Type} {x : α} {A B C : List α} : (A ++ (B ++ x :: C)).Perm (x :: (A ++ (B ++ C))) := ((List.perm_middle (a := x) (l₁ := B) (l₂ := C)).append_left A).trans List.perm_middle
theorem wq (W : List Nat) : ∀ {ds : List D} {vs : List V} {k : Nat} {F : Addr -> Prop} {R : Ro}, ds.length = vs.length -> G K F H (ds.zip vs ++ R) -> ∃ F', Ext F H F' H /\ G K F' H ((la W k ds).zip vs ++ (mT W k ds vs ++ R))
 | [], [], _, F, R, _, g => ⟨F, Ext.refl, g⟩
 | d :: ds, v :: vs, k, F, R, hl, g => by
  have hl' : ds.length = vs.length := by simpa using hl
  have g0 : G K F H ((d, v) :: (ds.zip vs ++ R)) := by simpa using g
  by_cases hk : k ∈ W
  ·obtain ⟨F1, x1, g1, o1⟩ := g0.freeze
   have g2 : G K F1 H (ds.zip vs ++ ((d.fz, v) :: (d.fz, v) :: R)) := (g1.push o1).perm (((List.perm_middle).symm.cons _).trans (List.perm_middle).symm);obtain ⟨F2, x2, g3⟩ := wq W (k := k + 1) hl' g2;refine ⟨F2, x1.trans x2, ?_⟩;simp only [la, mT, hk, if_true, List.zip_cons_cons];exact g3.perm (pull.trans ((List.perm_middle.append_left _).cons _))
  ·obtain ⟨F2, x2, g3⟩ := wq W (k := k + 1) (R := (d, v) :: R) hl' (g0.perm (List.perm_middle.symm))
   refine ⟨F2, x2, ?_⟩;simp only [la, mT, hk, if_false, List.zip_cons_cons];exact g3.perm pull
theorem fV {σ : ar} {i j : Nat} {o : Option D} (h : i ≠ j) : bf (σ.set i o) j = bf σ j := by
 unfold bf; rw [List.getElem?_set_ne h]
theorem sB (W : List Nat) {σ : ar} {o : Option D} {i : Nat} : ∀ {k : Nat} {ds : List D}, i < k -> gK W (σ.set i o) k ds = gK W σ k ds
 | _, [], _ => rfl
 | k, d :: ds, h => by simp only [gK]; rw [fV oM, sB W (k := k + 1) oM]
theorem Aa (W : List Nat) {σ : St} : ∀ {ds : List D} {vs : List V} {k : Nat} {σD : ar} {R : Ro}, ds.length = vs.length -> (∀ (j : Nat) v, vs[j]? = some v -> k + j ∉ W -> σ[k + j]? = some (some v)) ->
  Rel K F H σD σ (mT W k ds vs ++ R) -> ∃ σD2, Rel K F H σD2 σ ((gK W σD k ds).zip vs ++ R) := by
 intro ds
 induction ds with
 | nil =>
  intro vs k σD R hl hv r;cases vs with
  | nil => exact ⟨σD, r⟩
  | cons _ _ => cases hl
 | cons d ds ih =>
  intro vs k σD R hl hv r;cases vs with
  | nil => cases hl
  | cons v vs =>
   have hl' : ds.length = vs.length := by simpa using hl
   have hv' : ∀ (j : Nat) u, vs[j]? = some u -> k + 1 + j ∉ W -> σ[k + 1 + j]? = some (some u) := fun j u e h => by
    have q := hv (j + 1) u (by simpa using e) (by rw [show k + (j + 1) = k + 1 + j by omega]; exact h);rw [show k + (j + 1) = k + 1 + j by omega] at q; exact q
   by_cases hk : k ∈ W
   ·simp only [mT, hk, if_true] at r
    obtain ⟨σ2, r2⟩ := ih (k := k + 1) (R := (d.fz, v) :: R) hl' hv' (r.perm List.perm_middle.symm);refine ⟨σ2, ?_⟩;simp only [gK, hk, if_true, List.zip_cons_cons];exact r2.perm List.perm_middle
   ·simp only [mT, hk, if_false] at r
    have e0 : σ[k]? = some (some v) := by simpa using hv 0 v rfl (by simpa using hk)
    rcases hd : bf σD k with _ | dk
    ·have r1 : Rel K F H σD σ ((.hole, v) :: (mT W (k + 1) ds vs ++ R)) := r.push (by simp only [Ow])
     obtain ⟨σ2, r2⟩ := ih (k := k + 1) (R := (.hole, v) :: R) hl' hv' (r1.perm List.perm_middle.symm);refine ⟨σ2, ?_⟩;simp only [gK, hk, if_false, List.zip_cons_cons, hd, Option.getD_none];exact r2.perm List.perm_middle
    ·obtain ⟨v', hv1, r1⟩ := r.take (bm hd)
     rw [e0] at hv1; cases hv1;obtain ⟨σ2, r2⟩ := ih (k := k + 1) (R := (dk, v) :: R) hl' hv' (r1.perm List.perm_middle.symm);refine ⟨σ2, ?_⟩;simp only [gK, hk, if_false, List.zip_cons_cons, hd, Option.getD_some];rw [sB W (Nat.lt_succ_self k)] at r2;exact r2.perm List.perm_middle
theorem nv : ∀ {n : Nat} {σ : St}, sl (List.replicate n none) σ = []
 | 0, σ => by cases σ <;> rfl
 | n + 1, [] => rfl
 | n + 1, o :: σ => by rw [List.replicate_succ]; exact nv (n := n) (σ := σ)
theorem rW : ∀ {ds : List D} {vs : List V} {n : Nat}, ds.length = vs.length -> sl (ds.map some ++ List.replicate n none) (vs.map some ++ List.replicate n none) = ds.zip vs
 | [], [], n, _ => by simpa using nv
 | d :: ds, v :: vs, n, h => by
  show (d, v) :: sl (ds.map some ++ List.replicate n none) (vs.map some ++ List.replicate n none) = _;rw [rW (by simpa using h)]; rfl
theorem pH : ∀ {n : Nat}, Mt (List.replicate n none) (List.replicate n none)
 | 0 => trivial
 | n + 1 => by rw [List.replicate_succ, List.replicate_succ]; exact pH (n := n)
theorem sO : ∀ {ds : List D} {vs : List V} {n : Nat}, ds.length = vs.length -> Mt (ds.map some ++ List.replicate n none) (vs.map some ++ List.replicate n none)
 | [], [], n, _ => by simpa using pH
 | d :: ds, v :: vs, n, h => sO (ds := ds) (vs := vs) (n := n) (by simpa using h)
end
section
variable {P : Program} {w : World} {K : PySem.W.Frag} {mg : Str -> Option Value} {base : Heap}
theorem cK {x qual : Str} {st : Stmt} {f : Addr} {fd : FuncData} {N ps : List Str} {k : Nat} {W : List Nat} {c : DS} (F : Fun K x qual st f fd) (S : aY N ps (ax st)) (hnp : ps.length <= N.length)
  (hbody : ∀ (cdv : Value) (A : Around) (outer : List Env) (s : Shared) (H : Hp) (E : XK), Room k (A.deeper (envOfC qual (ax st) s.heap.objs.size f cdv)) ->
   oZ (nN cN P w K mg base N qual (ax st) f cdv A outer s H E).nox (hB st) c W) :
  bY P w K mg base cN (k + 1) f fd ps (cP K ps.length (df N.length W c)) := by
 refine F.ok S (fun vs H Q E h => h.1) (fun cdv A outer s H vs Q E hr h => ?_);obtain ⟨hlen, F0, R, ds, r, ds', hl, g, eg, kk⟩ := h;refine ⟨_, hbody cdv A outer s H E hr, ?_⟩;show rS K c W _ _ _;unfold df at eg;obtain ⟨F1, x1, g1⟩ := wq W (k := 0) hl g;have hl2 : (la W 0 ds).length = vs.length := by rw [oj]; exact hl
 have est : L2.start N vs = vs.map some ++ List.replicate (N.length - ds.length) none := by unfold L2.start; rw [hl]
 have r0 : Rel K F1 H ((la W 0 ds).map some ++ List.replicate (N.length - ds.length) none) (L2.start N vs) (mT W 0 ds vs ++ R) := by
  rw [est];exact ⟨sO hl2, by rw [rW hl2]; exact g1⟩
 rcases h : c ((la W 0 ds).map some ++ List.replicate (N.length - ds.length) none) with _ | o
 ·rw [h] at eg; cases eg
 ·rw [h] at eg; simp only [bind_some] at eg
  refine ⟨F1, _, _, o, r0, h, fun F2 H2 σ2 x2 kp => ?_⟩;have hv : ∀ (j : Nat) v, vs[j]? = some v -> 0 + j ∉ W -> σ2[0 + j]? = some (some v) := fun j v e hj => by
   rw [kp (0 + j) hj, Nat.zero_add, est];have hjl : j < vs.length := (List.getElem?_eq_some_iff.mp e).1;rw [List.getElem?_append_left (by simpa using hjl)];simp [e]
  cases o with
  | nx σ3 =>
   cases eg;intro r3;obtain ⟨σ4, r4⟩ := Aa W (k := 0) hl hv r3;exact kk F2 H2 .non (x1.trans x2) (by rw [jU]; exact hl) ((r4.scal (d := .non) (w := .non) rfl).g.popN)
  | rt d σ3 =>
   cases eg;intro v r3;obtain ⟨σ4, r4⟩ := Aa W (k := 0) (R := (_, v) :: R) hl hv (r3.perm List.perm_middle.symm);exact kk F2 H2 v (x1.trans x2) (by rw [jU]; exact hl) ((r4.perm List.perm_middle).g.popN)
  | bk σ3 => cases eg
  | ct σ3 => cases eg
end
inductive Arg where
 | bo (i : Nat) | ex (c : DE)
noncomputable def mU : List Arg -> ar -> Option (List (Option D) × ar)
 | [], σ => some ([], σ)
 | .bo i :: as, σ => (bf σ i).bind fun _ => (mU as σ).map fun p => (none :: p.1, p.2)
 | .ex c :: as, σ => (c σ).bind fun q => (mU as q.2).map fun p => (some q.1 :: p.1, p.2)
noncomputable def fL : List Arg -> List (Option D) -> ar -> Option (List D × ar)
 | .bo i :: as, none :: os, σ => (bf σ i).bind fun d => match d.sc with
  | some _ => (fL as os σ).map fun p => (d :: p.1, p.2)
  | none => (fL as os (σ.set i none)).map fun p => (d :: p.1, p.2)
 | .ex _ :: as, some d :: os, σ => (fL as os σ).map fun p => (d :: p.1, p.2)
 | [], [], σ => some ([], σ)
 | _, _, _ => none
noncomputable def im : List Arg -> List D -> ar -> ar
 | .bo i :: as, d :: ds, σ => match d.sc with
  | some _ => im as ds σ
  | none => im as ds (σ.set i (some d))
 | .ex _ :: as, _ :: ds, σ => im as ds σ
 | _, _, σ => σ
noncomputable def aW (g : GF) (as : List Arg) : DE := fun σ => (mU as σ).bind fun p => (fL as p.1 p.2).bind fun q => (g q.1).map fun r => (r.1, im as r.2 q.2)
noncomputable def OkM : List Arg -> List (Option D) -> List V -> St -> Prop
 | .bo i :: as, none :: os, v :: vs, σ => σ[i]? = some (some v) /\ OkM as os vs σ
 | .ex _ :: as, some _ :: os, _ :: vs, σ => OkM as os vs σ
 | [], [], [], _ => True
 | _, _, _, _ => False
noncomputable def tz : List (Option D) -> List V -> Ro
 | none :: os, _ :: vs => tz os vs
 | some d :: os, v :: vs => (d, v) :: tz os vs
 | _, _ => []
noncomputable def rM (K : PySem.W.Frag) (as : List Arg) : TA := fun σ H Q => ∃ F R σD os σD', Rel K F H σD σ R /\ mU as σD = some (os, σD') /\ ∀ F' H' vs, Ext F H F' H' -> OkM as os vs σ -> Rel K F' H' σD' σ (tz os vs ++ R) -> Q vs H'
noncomputable def QM (X : Cx) (es : List Expr) (as : List Arg) : Prop := PA X es (rM X.K as)
section
variable {X : Cx} {e : Expr} {es : List Expr} {as : List Arg} {c : DE}
theorem aP : QM X [] [] := fX dQ fun σ H Q hq0 => by
 obtain ⟨F, R, σD, os, σD', r, ec, k⟩ := hq0;cases ec; exact k F H [] Ext.refl trivial r
theorem ci (ha : QE X e c) (hr : QM X es as) (hs : autoParam (starEach (e :: es) X.env = (false, eval e X.env) :: starEach es X.env) au._auto_1) : QM X (e :: es) (.ex c :: as) := fX (cE ha hr hs) fun σ H Q hq0 => by
 obtain ⟨F, R, σD, os, σD', r, ec, k⟩ := hq0;simp only [mU] at ec;rcases h1 : c σD with _ | ⟨x, σ1⟩
 ·rw [h1] at ec; cases ec
 ·rw [h1] at ec; simp only [bind_some] at ec
  obtain ⟨⟨os2, σ2⟩, e2, e3⟩ := bH ec;cases e3;refine ⟨F, R, σD, x, σ1, r, h1, fun F1 H1 v x1 r1 => ?_⟩;refine ⟨F1, _, σ1, os2, σ2, r1, e2, fun F2 H2 vs x2 ok r2 => ?_⟩;exact k F2 H2 (v :: vs) (x1.trans x2) ok (r2.perm List.perm_middle)
theorem aT (i : Nat) {x : Str} {pos : Pos} (hr : QM X es as) (hN : autoParam (X.N[i]? = some x) au._auto_1) (hv : autoParam (m7 X.env.scope x) qy._auto_1) (hd : autoParam ((x == ("__debug__" : Str)) = false) cx._auto_1)
  (hcd : autoParam ((x == ("__classdict__" : Str)) = false) cx._auto_1) (hs : autoParam (starEach (.Name x pos :: es) X.env = (false, eval (.Name x pos) X.env) :: starEach es X.env) au._auto_1) : QM X (.Name x pos :: es) (.bo i :: as) :=
 fX (cE (iu hN hv hd hcd) hr hs) fun σ H Q hq0 => by
  obtain ⟨F, R, σD, os, σD', r, ec, k⟩ := hq0;simp only [mU] at ec;rcases h1 : bf σD i with _ | d
  ·rw [h1] at ec; cases ec
  ·rw [h1] at ec; simp only [bind_some] at ec
   obtain ⟨⟨os2, σ2⟩, e2, e3⟩ := bH ec;cases e3;obtain ⟨v, hv, b⟩ := r.get (bm h1);refine ⟨v, hv, F, R, σD, os2, σ2, r, e2, fun F2 H2 vs x2 ok r2 => ?_⟩;exact k F2 H2 (v :: vs) x2 ⟨hv, ok⟩ r2
variable {K : PySem.W.Frag} {F F' : Addr -> Prop} {H H' : Hp}
theorem BB : ∀ {as : List Arg} {os : List (Option D)} {vs : List V} {σ : St} {σD : ar} {R : Ro} {ds : List D} {σD' : ar}, OkM as os vs σ -> fL as os σD = some (ds, σD') -> Rel K F H σD σ (tz os vs ++ R) ->
  ds.length = vs.length /\ Rel K F H σD' σ (ds.zip vs ++ R) := by
 intro as
 induction as with
 | nil =>
  intro os vs σ σD R ds σD' ok e r;cases os with
  | nil => cases vs with
   | nil => simp only [fL] at e; cases e; exact ⟨rfl, r⟩
   | cons _ _ => exact ok.elim
  | cons _ _ => exact ok.elim
 | cons a as ih =>
  intro os vs σ σD R ds σD' ok e r;cases os with
  | nil => cases a <;> exact ok.elim
  | cons o os => cases vs with
   | nil => cases a <;> cases o <;> exact ok.elim
   | cons v vs => cases a with
    | bo i => cases o with
     | some _ => exact ok.elim
     | none =>
      obtain ⟨hv, ok⟩ := ok;simp only [fL] at e;rcases h1 : bf σD i with _ | d
      ·rw [h1] at e; cases e
      ·rw [h1] at e; simp only [bind_some] at e
       obtain ⟨v', hv1, r1⟩ := r.take (bm h1);rw [hv] at hv1; cases hv1;rcases hs : d.sc with _ | wv
       ·rw [hs] at e
        obtain ⟨⟨ds2, σ2⟩, e2, e3⟩ := bH e;cases e3;obtain ⟨l, r2⟩ := ih (R := (d, v) :: R) ok e2 (r1.perm List.perm_middle.symm);exact ⟨by simp [l], r2.perm List.perm_middle⟩
       ·rw [hs] at e
        obtain ⟨⟨ds2, σ2⟩, e2, e3⟩ := bH e;cases e3;have ev : v = wv := (r1.bor (by simp)).sc hs;subst ev;obtain ⟨l, r2⟩ := ih (R := R) ok e2 r;exact ⟨by simp [l], r2.scal hs⟩
    | ex _ => cases o with
     | none => exact ok.elim
     | some d =>
      simp only [fL] at e;obtain ⟨⟨ds2, σ2⟩, e2, e3⟩ := bH e;cases e3;obtain ⟨l, r2⟩ := ih (os := os) (vs := vs) (R := (d, v) :: R) ok e2 (r.perm (List.perm_middle (l₁ := tz os vs)).symm);exact ⟨by simp [l], r2.perm List.perm_middle⟩
theorem BG : ∀ {as : List Arg} {os : List (Option D)} {vs : List V} {σ : St} {σD : ar} {R : Ro} {ds : List D}, OkM as os vs σ -> ds.length = vs.length -> Rel K F H σD σ (ds.zip vs ++ R) -> Rel K F H (im as ds σD) σ R := by
 intro as
 induction as with
 | nil =>
  intro os vs σ σD R ds ok l r;cases os with
  | nil => cases vs with
   | nil => cases ds with
    | nil => exact r
    | cons _ _ => cases l
   | cons _ _ => exact ok.elim
  | cons _ _ => exact ok.elim
 | cons a as ih =>
  intro os vs σ σD R ds ok l r;cases os with
  | nil => cases a <;> exact ok.elim
  | cons o os => cases vs with
   | nil => cases a <;> cases o <;> exact ok.elim
   | cons v vs => cases ds with
    | nil => cases l
    | cons d ds =>
     have l' : ds.length = vs.length := by simpa using l
     cases a with
     | bo i => cases o with
      | some _ => exact ok.elim
      | none =>
       obtain ⟨hv, ok⟩ := ok;simp only [im];rcases hs : d.sc with _ | wv
       ·exact ih ok l' (Rel.put (R := ds.zip vs ++ R) r hv)
       ·exact ih ok l' (Rel.pop (R := ds.zip vs ++ R) r)
     | ex _ => cases o with
      | none => exact ok.elim
      | some d' => exact ih (os := os) ok l' (Rel.pop (R := ds.zip vs ++ R) r)
theorem OkM.length : ∀ {as : List Arg} {os : List (Option D)} {vs : List V} {σ : St}, OkM as os vs σ -> vs.length = as.length := by
 intro as
 induction as with
 | nil =>
  intro os vs σ ok;cases os with
  | nil => cases vs with
   | nil => rfl
   | cons _ _ => exact ok.elim
  | cons _ _ => exact ok.elim
 | cons a as ih =>
  intro os vs σ ok;cases os with
  | nil => cases a <;> exact ok.elim
  | cons o os => cases vs with
   | nil => cases a <;> cases o <;> exact ok.elim
   | cons v vs => cases a with
    | bo i => cases o with
     | some _ => exact ok.elim
     | none => exact congrArg (· + 1) (ih (os := os) (vs := vs) ok.2)
    | ex _ => cases o with
     | none => exact ok.elim
     | some _ => exact congrArg (· + 1) (ih (os := os) (vs := vs) (σ := σ) ok)
theorem DW {n : Nat} {g : GF} {E : XK} {σ : St} {H : Hp} {Q : VK} (hn : as.length = n) (h : rE K (aW g as) σ H Q) : vH (cP K n g) [] E (rM K as) σ H Q := by
 obtain ⟨F, R, σD, d, σD', r, ec, k⟩ := h;unfold aW at ec;rcases h1 : mU as σD with _ | ⟨os, σ1⟩
 ·rw [h1] at ec; cases ec
 ·rw [h1] at ec; simp only [bind_some] at ec
  rcases h2 : fL as os σ1 with _ | ⟨ds, σ2⟩
  ·rw [h2] at ec; cases ec
  ·rw [h2] at ec; simp only [bind_some] at ec
   obtain ⟨⟨d', ds'⟩, e2, e3⟩ := bH ec;cases e3;refine ⟨F, R, σD, os, σ1, r, h1, fun F1 H1 vs x1 ok r1 => ?_⟩;obtain ⟨l, r2⟩ := BB ok h2 r1;have lv : vs.length = n := by rw [<- hn]; exact ok.length
   refine ⟨by simpa using lv, F1, sl σ2 σ ++ R, ds, _, ds', by simpa using l, ?_, e2, fun F2 H2 v x2 l2 g2 => ?_⟩
   ·rw [List.append_nil]
    exact r2.g.perm (by rw [<- List.append_assoc, <- List.append_assoc]; exact List.perm_append_comm.append_right R)
   ·refine k F2 H2 v (x1.trans x2) ?_
    rw [List.append_nil] at l2 g2;refine BG (R := (_, v) :: R) ok l2 ⟨r2.mt, g2.perm ?_⟩;exact ((pull (x := (_, v)) (A := sl σ2 σ) (B := ds'.zip vs) (C := R)).trans ((List.perm_append_comm_assoc _ _ _).cons _)).symm
theorem aB {k : Nat} {f : Addr} {fd : FuncData} {ps : List Str} {g : GF} {x : Str} {p pos : Pos} (F : bY X.prog X.w X.K X.mg X.base cN k f fd ps (cP X.K ps.length g)) (hr : Room k X.A) (hg : Gl X x) (hm : X.mg x = some (.ref f)) (hk : keepIn X.K (.ref f) = true) (hb : Binds X.K fd ps [])
  (ha : QM X (e :: es) as) (hn : autoParam (as.length = ps.length) au._auto_1) (hdb : autoParam ((x == ("__debug__" : Str)) = false) cx._auto_1) (he : autoParam (starEach (e :: es) X.env = (false, eval e X.env) :: starEach es X.env) au._auto_1) (hpl : autoParam ((backTo pos (starEach es X.env)).any (·.1) = false) au._auto_1) :
  QE X (.Call (.Name x p) (e :: es) [] pos) (aW g as) := aO (uR (E := E0) F hr hg hm hk hb .nil zR ha hdb he hpl) fun _ _ _ h => DW hn h
end
end DD
namespace L2
open PySem PySem.Spec PyProof.Rows
theorem oH : ∀ (names : List (Str × NameKind)) (n : Nat) (acc : List (Str × Addr)), ∃ own, cellsFrom n names acc = own ++ acc /\ (∀ p ∈ own, n <= p.2 /\ (p.1, NameKind.cell) ∈ names) /\
  (∀ x, (x, NameKind.cell) ∈ names -> ∃ c, (x, c) ∈ own) /\ own.Pairwise fun x y => x.2 ≠ y.2
 | [], n, acc => ⟨[], rfl, (fun _ h => by cases h), (fun _ h => by cases h), List.Pairwise.nil⟩
 | (name, kind) :: r, n, acc => by
  unfold cellsFrom;by_cases hk : kind = .cell
  ·subst hk
   obtain ⟨own, e, h1, h2, h3⟩ := oH r (n + 1) ((name, n) :: acc);refine ⟨own ++ [(name, n)], ?_, ?_, ?_, ?_⟩
   ·rw [if_pos dC, e, List.append_assoc]; rfl
   ·intro p hp
    rcases List.mem_append.mp hp with hp | hp
    ·exact ⟨Nat.le_of_succ_le (h1 p hp).1, List.mem_cons_of_mem _ (h1 p hp).2⟩
    ·rw [List.mem_singleton.mp hp]; exact ⟨Nat.le_refl _, List.mem_cons_self⟩
   ·intro x hx
    rcases List.mem_cons.mp hx with hx | hx
    ·cases hx; exact ⟨n, List.mem_append_right _ List.mem_cons_self⟩
    ·obtain ⟨c, hc⟩ := h2 x hx; exact ⟨c, List.mem_append_left _ hc⟩
   ·refine List.pairwise_append.mpr ⟨h3, List.pairwise_singleton _ _, fun a ha b hb e => ?_⟩
    rw [List.mem_singleton.mp hb] at e;have h5 := (h1 a ha).1;rw [show a.2 = n from e] at h5;exact absurd h5 (Nat.not_succ_le_self n)
  ·obtain ⟨own, e, h1, h2, h3⟩ := oH r n acc
   have hk' : (kind == NameKind.cell) = false := by cases kind <;> first | rfl | exact absurd rfl hk
   refine ⟨own, by rw [hk']; exact e, fun p hp => ⟨(h1 p hp).1, List.mem_cons_of_mem _ (h1 p hp).2⟩, fun x hx => ?_, h3⟩;rcases List.mem_cons.mp hx with hx | hx
   ·cases hx; exact absurd rfl hk
   ·exact h2 x hx
theorem oG {scope : Scope} {env : Env} (h : ∀ x, (x, NameKind.free) ∈ scope.names -> ∃ c, env.cells.lookup x = some c) :
  ∃ cl, closureFor scope env = pure cl /\ (∀ p ∈ cl, env.cells.lookup p.1 = some p.2) /\ ∀ x, (x, NameKind.free) ∈ scope.names -> ∃ c, (x, c) ∈ cl := by
 have all : ∀ (names : List (Str × NameKind)) (acc : List (Str × Addr)), (∀ x, (x, NameKind.free) ∈ names -> ∃ c, env.cells.lookup x = some c) -> (∀ p ∈ acc, env.cells.lookup p.1 = some p.2) ->
   ∃ cl, (forIn (m := Sem) names acc fun (p : Str × NameKind) (cs : List (Str × Addr)) => if (p.2 == NameKind.free) = true then do let __do_lift <- cellOf env p.1; pure (ForInStep.yield ((p.1, __do_lift) :: cs)) else pure (ForInStep.yield cs)) = pure cl /\
    (∀ p ∈ cl, env.cells.lookup p.1 = some p.2) /\ (∀ p ∈ acc, p ∈ cl) /\ ∀ x, (x, NameKind.free) ∈ names -> ∃ c, (x, c) ∈ cl := by
  intro names
  induction names with
  | nil => intro acc _ ha; exact ⟨acc, by rw [List.forIn_nil], ha, fun _ h => h, (fun _ h => by cases h)⟩
  | cons p r ih =>
   obtain ⟨name, kind⟩ := p;intro acc hn ha;by_cases hk : kind = .free
   ·subst hk
    obtain ⟨c, hc⟩ := hn name List.mem_cons_self;obtain ⟨cl, e, h1, h2, h3⟩ := ih ((name, c) :: acc) (fun x hx => hn x (List.mem_cons_of_mem _ hx)) (fun p hp => by
     rcases List.mem_cons.mp hp with rfl | hp
     ·exact hc
     ·exact ha p hp)
    refine ⟨cl, ?_, h1, fun p hp => h2 p (List.mem_cons_of_mem _ hp), fun x hx => ?_⟩
    ·rw [List.forIn_cons]
     have ec : cellOf env name = pure c := by unfold cellOf; rw [hc]
     simp only [ec];exact e
    ·rcases List.mem_cons.mp hx with hx | hx
     ·cases hx; exact ⟨c, h2 _ List.mem_cons_self⟩
     ·exact h3 x hx
   ·obtain ⟨cl, e, h1, h2, h3⟩ := ih acc (fun x hx => hn x (List.mem_cons_of_mem _ hx)) ha
    have hk' : (kind == NameKind.free) = false := by cases kind <;> first | rfl | exact absurd rfl hk
    refine ⟨cl, ?_, h1, h2, fun x hx => ?_⟩
    ·rw [List.forIn_cons]; simp only [hk', Bool.false_eq_true, if_false]; exact e
    ·rcases List.mem_cons.mp hx with hx | hx
     ·cases hx; exact absurd rfl hk
     ·exact h3 x hx
 obtain ⟨cl, e, h1, _, h3⟩ := all scope.names [] h (fun _ h => by cases h);refine ⟨cl, ?_, h1, h3⟩;simp only [closureFor];rw [e];rfl
theorem y3 {M : Model} {A : Around} {E : Value -> Shared -> Prop} {s : Shared} {scope : Scope} {env : Env} {cl : List (Str × Addr)} {Q : Env -> Shared -> Prop}
  (hQ : Q (newEnv scope s.heap.objs.size env.globals (cellsFrom (s.heap.objs.size + 1) scope.names cl) env.qual none .none (some env) builtinsNs) { s with heap := pushCells (s.heap.push { cls := .type "dict", data := .dict #[] }) scope.names }) :
  wpAny M A (newFunctionEnv scope env.globals cl [] env.qual none .none (some env)) Q E s := by
 simp only [newFunctionEnv, Option.isSome_some, if_true];refine wpAny_bind (wpAny_alloc ?_);refine wpAny_bind (wpAny_layCells _ (fun name kind cells => by cases hkc : kind == NameKind.cell <;> simp [hkc]) _ _ _ _ ?_);rw [show ({ s with heap := s.heap.push { cls := .type "dict", data := .dict #[] } } : Shared).heap.objs.size = s.heap.objs.size + 1 from Heap.size_push ..];refine wpAny_bind ?_;rw [List.forIn_nil];exact wpAny_pure (wpAny_pure hQ)
noncomputable def cG (X : Cx) (N' : List Str) (scope : Scope) (cl : List (Str × Addr)) (s : Shared) (H : Hp) (fp : List Addr) (aa : List (Addr × Obj)) : Cx :=
 { X with N := N', s₀ := s, H₀ := H, env := compEnvC scope (cellsFrom (s.heap.objs.size + 1) scope.names cl) s.heap.objs.size X.env, outer := X.stack, stack := X.stack, ex := fp,
          fn := fun x => scope.names.lookup x == some .cell, pn := X.pn ++ aa, xe := fun _ _ => False }
structure mr (X : Cx) (N' : List Str) (scope : Scope) : Prop where
 kind : scope.kind = .function
 nd : (scope.names.map (·.1)).Nodup
 len : X.N.length <= N'.length
 free : ∀ x, (x, NameKind.free) ∈ scope.names -> X.env.kindOf x = some .cell \/ X.env.kindOf x = some .free
 same : ∀ i x, i < X.N.length -> N'[i]? = some x -> (x, NameKind.free) ∈ scope.names -> X.N[i]? = some x
 hid : ∀ i x, i < X.N.length -> N'[i]? = some x -> (∃ k, (x, k) ∈ scope.names) -> (x, NameKind.free) ∈ scope.names
theorem eF {α : Type} : ∀ {l : List (Str × α)} {x : Str} {k : α}, (l.map (·.1)).Nodup -> (x, k) ∈ l -> l.lookup x = some k
 | (y, j) :: r, x, k, nd, h => by
  rw [List.map_cons, List.nodup_cons] at nd;rcases List.mem_cons.mp h with h | h
  ·cases h; rw [List.lookup_cons]; simp
  ·have ne : x ≠ y := fun e => nd.1 (e ▸ List.mem_map_of_mem (f := (·.1)) h)
   rw [List.lookup_cons];have : (x == y) = false := by simpa using ne
   rw [this];exact eF nd.2 h
theorem iw {α : Type} : ∀ {l : List (Str × α)} {x : Str} {k : α}, (x, k) ∈ l -> ∃ k', l.lookup x = some k'
 | (y, j) :: r, x, k, h => by
  rw [List.lookup_cons];cases hb : x == y with
  | true => exact ⟨j, rfl⟩
  | false =>
   rcases List.mem_cons.mp h with h | h
   ·cases h; simp at hb
   ·exact iw h
theorem hX {scope : Scope} {env : Env} {x : Str} {k : NameKind} (h : (relabel scope env).names.lookup x = some k) : (x, k) ∈ scope.names \/ ((x, NameKind.free) ∈ scope.names /\ k = .cell) := by
 have h1 := mem_of_lookup h;unfold relabel at h1;obtain ⟨⟨n, j⟩, hm, e⟩ := List.mem_map.mp h1;dsimp only at e;split at e
 ·rename_i hc
  cases e;refine .inr ⟨?_, rfl⟩;have : j = .free := by
   cases j <;> simp at hc <;> rfl
  subst this; exact hm
 ·cases e; exact .inl hm
theorem qK {α : Type} {a b : List (Str × α)} {x : Str} (h : ∀ p ∈ a, p.1 ≠ x) : (a ++ b).lookup x = b.lookup x := by
 induction a with
 | nil => rfl
 | cons p r ih =>
  obtain ⟨y, j⟩ := p;rw [List.cons_append, List.lookup_cons];have : (x == y) = false := by
   have := h (y, j) List.mem_cons_self
   simpa using fun e : x = y => this e.symm
  rw [this];exact ih fun p hp => h p (List.mem_cons_of_mem _ hp)
section
variable {X : Cx} {N' : List Str} {scope : Scope} {cl : List (Str × Addr)} {s : Shared} {H : Hp} {fp : List Addr} {aa : List (Addr × Obj)} {σ : St}
theorem zr (T : mr X N' scope) (I : Inv X aa σ H s) (hcl : ∀ p ∈ cl, X.env.cells.lookup p.1 = some p.2) (hfr : ∀ x, (x, NameKind.free) ∈ scope.names -> ∃ c, (x, c) ∈ cl)
  (hf : ∀ b ∈ fp, eJ X aa H b) (ho : ∀ b ∈ fp, ∃ o, s.heap.get? b = some o) :
  Inv (cG X N' scope cl s H fp aa) [] (σ ++ List.replicate (N'.length - X.N.length) none) H { s with heap := pushCells (s.heap.push { cls := .type "dict", data := .dict #[] }) scope.names } := by
 obtain ⟨own, eo, o1, o2, o3⟩ := oH scope.names (s.heap.objs.size + 1) cl;have keep : ∀ b o, s.heap.get? b = some o -> (pushCells (s.heap.push { cls := .type "dict", data := .dict #[] }) scope.names).get? b = some o := fun b o e => pushCells_keeps _ _ b o (Heap.get?_push_of_some _ e)
 have clt : ∀ x c, (x, c) ∈ cl -> c < s.heap.objs.size := fun x c h => by
  obtain ⟨v, z⟩ := I.cell x c (hcl _ h);exact z.lt
 -- what a cell of the block is
 have cases_ : ∀ x c, (own ++ cl).lookup x = some c -> (s.heap.objs.size + 1 <= c /\ (x, c) ∈ own) \/ X.env.cells.lookup x = some c := fun x c h => by
  rcases List.mem_append.mp (mem_of_lookup h) with h | h
  ·exact .inl ⟨(o1 _ h).1, h⟩
  ·exact .inr (hcl _ h)
 have hst : ∀ b ∈ fp, b ∉ ki X.stack := fun b hb z => by
  rcases List.mem_cons.mp (I.stkSub b z) with e | e
  ·exact (hf b hb).2.1 e
  ·exact (hf b hb).2.2.1 e
 have okc : CellsOk (pushCells (s.heap.push { cls := .type "dict", data := .dict #[] }) scope.names) (s.heap.objs.size + 1) (cellsFrom (s.heap.objs.size + 1) scope.names []) := by
  have q := cellsFrom_ok scope.names (s.heap.push { cls := .type "dict", data := .dict #[] }) (s.heap.objs.size + 1) [] ⟨(fun _ _ hm => by cases hm), List.Pairwise.nil⟩ (by rw [Heap.size_push]; exact Nat.le_refl _);rw [Heap.size_push] at q;exact q
 have eown : cellsFrom (s.heap.objs.size + 1) scope.names [] = own := by
  obtain ⟨own', e', _⟩ := oH scope.names (s.heap.objs.size + 1) [];have gen : ∀ (names : List (Str × NameKind)) (n : Nat) (acc : List (Str × Addr)), cellsFrom n names acc = cellsFrom n names [] ++ acc := by
   intro names
   induction names with
   | nil => intro n acc; rfl
   | cons p r ih =>
    obtain ⟨name, kind⟩ := p;intro n acc;unfold cellsFrom;split
    ·rw [ih (n + 1) ((name, n) :: acc), ih (n + 1) [(name, n)], List.append_assoc]; rfl
    ·exact ih n acc
  have := gen scope.names (s.heap.objs.size + 1) cl
  rw [eo] at this;exact (List.append_cancel_right this).symm
 have ok : (cG X N' scope cl s H fp aa).Ok := by
  refine ⟨I.ok.mod, T.kind, I.ok.glob, I.ok.blt, Nat.le_refl _, fun x y c h1 h2 => ?_, fun x h => ?_, fun x c h1 h2 => ?_, I.ok.hd, I.ok.frames, .inl rfl, fun b hb => ⟨?_, fun x c h => ?_⟩, I.bs, Nat.le_trans I.ok.bsz I.sz, fun b o e hb => ?_, hst, I.stack, I.stkFree⟩
  ·have h1 : (own ++ cl).lookup x = some c := eo ▸ h1
   have h2 : (own ++ cl).lookup y = some c := eo ▸ h2;rcases cases_ x c h1 with ⟨l1, m1⟩ | e1
   ·rcases cases_ y c h2 with ⟨l2, m2⟩ | e2
    ·exact name_of_addr o3 m1 m2
    ·obtain ⟨v, z⟩ := I.cell y c e2
     exact absurd (Nat.lt_of_lt_of_le z.lt (Nat.le_of_succ_le (by first | exact l2 | exact l1))) (Nat.lt_irrefl _)
   ·rcases cases_ y c h2 with ⟨l2, m2⟩ | e2
    ·obtain ⟨v, z⟩ := I.cell x c e1
     exact absurd (Nat.lt_of_lt_of_le z.lt (Nat.le_of_succ_le (by first | exact l2 | exact l1))) (Nat.lt_irrefl _)
    ·exact I.ok.inj x y c e1 e2
  ·show ∃ c, (cellsFrom (s.heap.objs.size + 1) scope.names cl).lookup x = some c
   rw [eo];have fromFree : (x, NameKind.free) ∈ scope.names -> ∃ c, (own ++ cl).lookup x = some c := fun hm => by
    obtain ⟨c, hc⟩ := hfr x hm;exact iw (List.mem_append_right own hc)
   have fromCell : (x, NameKind.cell) ∈ scope.names -> ∃ c, (own ++ cl).lookup x = some c := fun hm => by
    obtain ⟨c, hc⟩ := o2 x hm;exact iw (List.mem_append_left cl hc)
   rcases h with h | h
   ·rcases hX h with h | ⟨h, _⟩
    ·exact fromCell h
    ·exact fromFree h
   ·rcases hX h with h | ⟨h, e⟩
    ·exact fromFree h
    ·cases e
  ·have h2 : (own ++ cl).lookup x = some c := eo ▸ h2
   have hc : scope.names.lookup x = some .cell := by
    have : (scope.names.lookup x == some NameKind.cell) = true := h1;simpa using this
   rcases cases_ x c h2 with ⟨l1, m1⟩ | e1
   ·exact Nat.le_of_succ_le l1
   ·-- x is one of the block's own: its cell stands ahead
    obtain ⟨c', hc'⟩ := o2 x (mem_of_lookup hc);obtain ⟨c2, hc2⟩ := iw hc';have : (own ++ cl).lookup x = some c2 := by
     have gen : ∀ l : List (Str × Addr), l.lookup x = some c2 -> (l ++ cl).lookup x = some c2 := by
      intro l
      induction l with
      | nil => intro h; cases h
      | cons p r ih =>
       obtain ⟨y, j⟩ := p;intro h;rw [List.cons_append, List.lookup_cons];rw [List.lookup_cons] at h;cases hb : x == y with
       | true => rw [hb] at h; exact h
       | false => rw [hb] at h; exact ih h
     exact gen own hc2
    rw [this] at h2;cases h2;exact Nat.le_of_succ_le (o1 _ (mem_of_lookup hc2)).1
  ·obtain ⟨o, e⟩ := ho b hb
   exact Nat.ne_of_lt (Heap.lt_size e)
  ·have h : (own ++ cl).lookup x = some c := eo ▸ h
   obtain ⟨o, e⟩ := ho b hb;have hlt := Heap.lt_size e;rcases cases_ x c h with ⟨l1, m1⟩ | e1
   ·intro z
    rw [z] at l1;exact absurd (Nat.lt_of_lt_of_le hlt (Nat.le_of_succ_le l1)) (Nat.lt_irrefl _)
   ·exact (hf b hb).2.2.2.2.1 x c e1
  ·rcases (hf b hb).2.2.2.1 with z | z
   ·exact I.ok.noex b o e z
   ·exact absurd (Nat.lt_of_lt_of_le (Heap.lt_size e) (Nat.le_trans I.ok.bsz z)) (Nat.lt_irrefl _)
 refine ⟨ok, rfl, I.bare, Un.kept keep, ⟨fun _ => none, (Heap.Ns.new s.heap (.type "dict")).keeps (pushCells_keeps _ _), fun i x v e1 e2 e3 => ?_⟩, fun x c h => ?_, I.hok.fresh (Nat.le_refl _), fun x c h => ?_, fun p hp => ?_, I.hok.kept keep, ?_⟩
 ·-- a name of the code around
  have hlen := I.len;have hi : i < σ.length := by
   rcases Nat.lt_or_ge i σ.length with h | h
   ·exact h
   ·rw [List.getElem?_append_right h] at e2
    rw [List.getElem?_replicate] at e2;split at e2 <;> cases e2
  rw [List.getElem?_append_left hi] at e2;have hmem : ∃ k, (x, k) ∈ scope.names := by
   have : ∃ k, (relabel scope X.env).names.lookup x = some k := by
    rcases e3 with h | h | h <;> exact ⟨_, h⟩
   obtain ⟨k, h⟩ := this;rcases hX h with h | ⟨h, _⟩ <;> exact ⟨_, h⟩
  have hfree := T.hid i x oM e1 hmem;have eX := T.same i x oM e1 hfree;have kX := T.free x hfree;obtain ⟨m, hn, hl⟩ := I.loc;obtain ⟨u, ru, lk⟩ := hl i x v eX e2 (by rcases kX with h | h; exact .inr (.inl h); exact .inr (.inr h));refine ⟨u, ru, .inr ⟨?_, ?_⟩⟩
  ·-- its kind in the block
   have : ∃ k, (relabel scope X.env).names.lookup x = some k := by
    rcases e3 with h | h | h <;> exact ⟨_, h⟩
   obtain ⟨k, h⟩ := this;rcases hX h with h' | ⟨h', e⟩
   ·have e5 := eF T.nd h'
    have e6 := eF T.nd hfree;rw [e5] at e6;cases e6;exact .inr h
   ·subst e; exact .inl h
  ·rcases lk with ⟨k1, _⟩ | ⟨_, c, hc, z⟩
   ·rcases kX with h | h <;> rw [h] at k1 <;> cases k1
   ·refine ⟨c, ?_, z.keeps keep⟩
    show (cellsFrom (s.heap.objs.size + 1) scope.names cl).lookup x = some c;rw [eo, qK fun p hp e => ?_]
    ·obtain ⟨c', hc'⟩ := hfr x hfree
     obtain ⟨c2, hc2⟩ := iw hc'
     have := hcl _ (mem_of_lookup hc2)
     rw [hc] at this;cases this;exact hc2
    ·have e5 := eF T.nd (o1 p hp).2
     rw [e] at e5;have e6 := eF T.nd hfree;rw [e5] at e6;cases e6
 ·have h : (own ++ cl).lookup x = some c := eo ▸ h
  rcases cases_ x c h with ⟨l1, m1⟩ | e1
  ·exact ⟨none, (okc.empty x c (eown ▸ m1)).1⟩
  ·obtain ⟨v, z⟩ := I.cell x c e1
   exact ⟨v, z.keeps keep⟩
 ·have h : (own ++ cl).lookup x = some c := eo ▸ h
  rcases cases_ x c h with ⟨l1, m1⟩ | e1
  ·exact I.hok.fresh (Nat.le_of_succ_le l1)
  ·exact I.freeC x c e1
 ·rw [List.append_nil] at hp
  obtain ⟨e, n, ne, nf, d⟩ := I.pin p hp;refine ⟨keep _ _ e, n, Nat.ne_of_lt (Heap.lt_size e), fun z => ?_, d⟩;rcases List.mem_cons.mp (I.stkSub p.1 z) with z | z
  ·exact ne z
  ·exact nf z
 ·show (σ ++ List.replicate (N'.length - X.N.length) none).length = N'.length
  rw [List.length_append, List.length_replicate, I.len]
  have := T.len
  omega
theorem Df {σ1 : St} {H1 : Hp} {s1 : Shared} {h' : Heap} {pins1 : List (Addr × Obj)} (I : Inv X aa σ H s) (hf : ∀ b ∈ fp, eJ X aa H b) (I1 : Inv (cG X N' scope cl s H fp aa) pins1 σ1 H1 s1) (hs : Heap.SameBut s.heap.objs.size s1.heap h') :
  Inv X aa σ H1 { s1 with heap := h' } := by
 have hC : ∀ b o, s.heap.get? b = some o -> b ≠ s.heap.objs.size := fun b o e => Nat.ne_of_lt (Heap.lt_size e)
 have u := I1.base;have u2 : Un (ki X.stack) fp H H1 s.heap h' := by
  refine ⟨fun b o e n hb hx => ?_, fun b o e n hb hx => ?_, u.free, fun b o e hx => ?_, u.tups, u.frzs, u.tbls⟩
  ·rw [hs.2 b (hC b o e)]; exact u.keep b o e n hb hx
  ·obtain ⟨sl, q⟩ := u.slot b o e n hb hx
   exact ⟨sl, by rw [hs.2 b (hC b o e)]; exact q⟩
  ·obtain ⟨o', q⟩ := u.there b o e hx
   exact ⟨o', by rw [hs.2 b (hC b o e)]; exact q⟩
 have hCf : H1 s.heap.objs.size = none := I1.free;refine I.call' (s' := { s1 with heap := h' }) I1.os u2 (fun b o e => ?_) I1.bare fun b hb => ⟨(hf b hb).2.2.2.1, (hf b hb).2.1, (hf b hb).2.2.2.2.1, (hf b hb).2.2.2.2.2⟩
 refine (I1.hok b o e).stay (fun c v hc q => (hs.2 c ?_).trans q) (fun _ q => q) fun _ _ q => q
 rintro rfl;rcases hc with z | z
 ·rw [<- z, hCf] at e; cases e
 ·rw [hCf] at z; cases z
noncomputable def vq (X : Cx) (ifs : List Expr) (t : TT) : Prop :=
 ∀ (aa : List (Addr × Obj)) (s : Shared) (σ : St) (H : Hp) (Q : Bool -> Hp -> Prop), Inv X aa σ H s -> t σ H Q ->
  wpAny (model X.prog X.w) X.A (forIn ifs true fun c r => if r = true then do let ok <- isTrue c X.env (eval c X.env); pure (ForInStep.yield ok) else pure (ForInStep.yield r)) (TP X aa σ Q) X.xe s
theorem A2 : vq X [] (fun _ H Q => Q true H) := fun aa s σ H Q I h => wpAny_tests_nil ⟨H, I, h⟩
theorem A1 {c : Expr} {t : TT} (h : PT X c t) : vq X [c] t := fun aa s σ H Q I h' => wpAny_tests_one (h aa s σ H Q I h')
noncomputable def j5 (k : Nat) (wi : TI) (g : TG) (tt : TT) (te : TE) : TE := fun σ H Q => wi σ H fun J H1 => ∀ p, H1 p = none ->
 ∃ W : Nat -> Nat -> St -> Hp -> Prop, (∃ m, W 0 m (σ ++ List.replicate k none) (ay H1 p (.lst []))) /\ ∀ i m σ' H', W i m σ' H' ->
  (J.stop i H' /\ Q (.ref p) H') \/ (J.go i H' /\ ∀ x H2, J.yld i H' x H2 -> g x σ' H2 fun σ2 H3 => tt σ2 H3 fun ok H4 => if ok = true then
   te σ2 H4 fun y H5 => ∃ ys, H5 p = some (.lst ys) /\ ys.length < sizeLine /\ ∃ m', m' < m /\ W (i + 1) m' σ2 (ay H5 p (.lst (ys ++ [y])))
   else ∃ m', m' < m /\ W (i + 1) m' σ2 H4)
theorem tS {prog : Program} {w : World} {A : Around} {R : Result -> Shared -> Prop} {s : Shared} {elt target iter : Expr} {ifs : List Expr} {scope : Scope} {pos : Pos} {it acc : Value} {env : Env} (I : Nat -> Shared -> Prop)
  (turn : ∀ n s, I n s -> wpAny (model prog w) A (pyNext it) (fun r s₁ => match r with
   | none => R (.ok .next) s₁
   | some v => wpAny (model prog w) A (letOwnedTupleGo target it v) (fun _ s₁' => wpAny (model prog w) A (assign target env v) (fun _ s₂ =>
     wpAny (model prog w) A (forIn ifs true fun c r => if r = true then do let ok <- isTrue c env (eval c env); pure (ForInStep.yield ok) else pure (ForInStep.yield r)) (fun ok s₃ =>
      if ok = true then wpAny (model prog w) A (eval elt env) (fun x s₄ =>
       wpAny (model prog w) A (call (.builtin "list.append") [acc, x]) (fun _ s₅ => ∃ m, m < n /\ I m s₅) (fun _ _ => False) s₄) (fun _ _ => False) s₃
      else ∃ m, m < n /\ I m s₃) (fun _ _ => False) s₂) (fun _ _ => False) s₁') (fun _ _ => False) s₁) (fun _ _ => False) s)
  (n : Nat) (h : I n s) : codeAny (model prog w) A (.compLoop (.ListComp elt [⟨target, iter, ifs, 0⟩] scope pos) 0 it acc env) R s := by
 refine codeAny_loop rfl I (fun n s hI => ?_) n h;show wpAny _ A ((compTurn (.ListComp elt [⟨target, iter, ifs, 0⟩] scope pos) 0 it acc env).onRaise (fun x => do noteFrame x env; theTreesLotGoes x)) _ _ s;refine wpAny_noted ?_;rw [compTurn_list];refine wpAny_bind (wpAny_standAt (wpAny_bind (wpAny_mono (turn n s hI) (fun r s₁ h₁ => ?_) fun _ _ h' => h'.elim)));cases r with
 | none => exact wpAny_pure h₁
 | some v =>
  refine wpAny_bind (wpAny_mono h₁ (fun _ s₁' h₁' => ?_) fun _ _ h' => h'.elim);refine wpAny_bind (wpAny_mono h₁' (fun _ s₂ h₂ => wpAny_bind (wpAny_mono h₂ (fun ok s₃ h₃ => ?_) fun _ _ h' => h'.elim)) fun _ _ h' => h'.elim);cases ok with
  | false => exact wpAny_pure ⟨rfl, h₃⟩
  | true =>
   exact wpAny_bind (wpAny_bind (wpAny_mono h₃ (fun x s₄ h₄ => wpAny_bind (wpAny_mono h₄ (fun _ s₅ h₅ => wpAny_pure (wpAny_pure ⟨rfl, h₅⟩)) fun _ _ h' => h'.elim)) fun _ _ h' => h'.elim))
theorem sR {elt iter tg : Expr} {ifs : List Expr} {pos : Pos} {g : TG} {tt : TT} {te : TE} {J : It} {it : Addr} {tn : Nat -> Heap -> Prop} {Q : VK} {E : Value -> Shared -> Prop} {RR : Value -> Addr -> Result -> Shared -> Prop}
  (hc : X.calm = true) (T : mr X N' scope) (hcl : ∀ p ∈ cl, X.env.cells.lookup p.1 = some p.2) (hfr : ∀ x, (x, NameKind.free) ∈ scope.names -> ∃ c, (x, c) ∈ cl)
  (hg : ∀ cl s H fp aa, PG (cG X N' scope cl s H fp aa) tg g) (ht : ∀ cl s H fp aa, vq (cG X N' scope cl s H fp aa) ifs tt) (he : ∀ cl s H fp aa, PE (cG X N' scope cl s H fp aa) elt te)
  (I : Inv X aa σ H s) (Tn : mi X.prog X.w X.K tg J fp it tn) (st0 : tn 0 s.heap) (hf : ∀ b ∈ fp, eJ X aa H b)
  (h : ∀ p, H p = none -> ∃ W : Nat -> Nat -> St -> Hp -> Prop, (∃ m, W 0 m (σ ++ List.replicate (N'.length - X.N.length) none) (ay H p (.lst []))) /\ ∀ i m σ' H', W i m σ' H' ->
   (J.stop i H' /\ Q (.ref p) H') \/ (J.go i H' /\ ∀ x H2, J.yld i H' x H2 -> g x σ' H2 fun σ2 H3 => tt σ2 H3 fun ok H4 => if ok = true then
    te σ2 H4 fun y H5 => ∃ ys, H5 p = some (.lst ys) /\ ys.length < sizeLine /\ ∃ m', m' < m /\ W (i + 1) m' σ2 (ay H5 p (.lst (ys ++ [y])))
    else ∃ m', m' < m /\ W (i + 1) m' σ2 H4))
  (hRR : ∀ p C s1 H1, Inv X aa σ H1 s1 -> Q (.ref p) H1 -> (∃ m, s1.heap.Ns C m) -> H1 C = none -> s.heap.objs.size <= C -> RR (.ref p) C (.ok .next) s1) :
  wpAny (model X.prog X.w) X.A (newList []) (fun acc s₃ => wpAny (model X.prog X.w) X.A (newFunctionEnv scope X.env.globals cl [] X.env.qual none .none (some X.env)) (fun cenv s₄ =>
   codeAny (model X.prog X.w) X.A (.compStart (.ListComp elt [⟨tg, iter, ifs, 0⟩] scope pos) 0 (.ref it) acc { cenv with scope := relabel scope X.env }) (RR acc cenv.locals) s₄) E s₃) E s := by
 refine wpAny_newObj_type (y3 ?_);have hp : H s.heap.objs.size = none := I.fresh;obtain ⟨W, ⟨m0, w0⟩, turn⟩ := h _ hp;have I2 : Inv X aa σ (ay H s.heap.objs.size (.lst [])) { s with heap := s.heap.push { cls := .type "list", data := .seq ([] : List Value).toArray } } := Inv.lnew (t' := s.toks) (its := []) (ys := []) I .nil (Nat.zero_le _);have hf2 : ∀ b ∈ fp, eJ X aa (ay H s.heap.objs.size (.lst [])) b := fun b hb => by
  obtain ⟨o, e, _⟩ := Tn.obj _ _ st0 b hb;exact ⟨by rw [aw (Nat.ne_of_lt (Heap.lt_size e))]; exact (hf b hb).1, (hf b hb).2⟩
 have ho2 : ∀ b ∈ fp, ∃ o, (s.heap.push { cls := .type "list", data := .seq ([] : List Value).toArray } : Heap).get? b = some o := fun b hb => by
  obtain ⟨o, e, _⟩ := Tn.obj _ _ st0 b hb;exact ⟨o, Heap.get?_push_of_some _ e⟩
 have I3 := zr T I2 hcl hfr hf2 ho2;have st3 : tn 0 (pushCells ((s.heap.push { cls := .type "list", data := .seq ([] : List Value).toArray }).push { cls := .type "dict", data := .dict #[] }) scope.names) :=
  Tn.keep _ _ _ st0 fun b hb o e => pushCells_keeps _ _ b o (Heap.get?_push_of_some _ (Heap.get?_push_of_some _ e))
 generalize hs2 : ({ s with heap := s.heap.push { cls := .type "list", data := .seq ([] : List Value).toArray } } : Shared) = s2 at I2 I3;have hC : s.heap.objs.size <= s2.heap.objs.size := by rw [<- hs2]; exact Nat.le_of_lt (by show _ < (s.heap.push _).objs.size; rw [Heap.size_push]; exact Nat.lt_succ_self _)
 have stat : ∀ {H' : Hp}, (∀ b ∈ fp, H' b = none) -> ∀ b ∈ fp, eJ (cG X N' scope cl s2 (ay H s.heap.objs.size (.lst [])) fp aa) [] H' b := fun {H'} hn b hb => by
  refine ⟨hn b hb, (I3.ok.exf b hb).1, I3.ok.exfs b hb, .inl hb, (I3.ok.exf b hb).2, fun p hp => ?_⟩;rw [List.append_nil] at hp;exact (hf b hb).2.2.2.2.2 p hp
 have loop : ∀ s4, s4 = ({ s2 with heap := pushCells (s2.heap.push { cls := .type "dict", data := .dict #[] }) scope.names } : Shared) ->
   codeAny (model X.prog X.w) X.A (.compLoop (.ListComp elt [⟨tg, iter, ifs, 0⟩] scope pos) 0 (.ref it) (.ref s.heap.objs.size) (cG X N' scope cl s2 (ay H s.heap.objs.size (.lst [])) fp aa).env) (RR (.ref s.heap.objs.size) s2.heap.objs.size) s4 := by
  rintro s4 rfl;refine tS (fun n s' => ∃ i σ' H', Inv (cG X N' scope cl s2 (ay H s.heap.objs.size (.lst [])) fp aa) [] σ' H' s' /\ tn i s'.heap /\ (∀ b ∈ fp, H' b = none) /\ W i n σ' H') ?_ m0
   ⟨0, _, _, I3, by subst hs2; exact st3, fun b hb => (hf2 b hb).1, w0⟩
  rintro n s3 ⟨i, σ3, H3, I4, st4, fr4, w4⟩;rcases turn i n σ3 H3 w4 with ⟨stop, qn⟩ | ⟨go, step⟩
  ·refine bq (Tn.done (cG X N' scope cl s2 (ay H s.heap.objs.size (.lst [])) fp aa) rfl rfl rfl hc i [] s3 σ3 H3 (fun _ _ => False) I4 (stat fr4) st4 stop) fun r s5 ⟨hr, I5⟩ => ?_
   subst hr;obtain ⟨m, hn, _⟩ := I5.loc;exact hRR _ _ s5 H3 (Df I2 hf2 I5 (Heap.SameBut.refl _ _)) qn ⟨m, hn⟩ I5.free hC
  ·refine bq (Tn.item (cG X N' scope cl s2 (ay H s.heap.objs.size (.lst [])) fp aa) rfl rfl rfl hc i [] s3 σ3 H3 (fun _ _ => False) I4 (stat fr4) st4 go) fun r s5 ⟨u, hr, h5⟩ => ?_
   subst hr;refine bq h5 fun _ s6 ⟨x, H6, I6, r6, y6, st6, fr6⟩ => ?_
   have I6' := I6.pinned (stat fr6) (Tn.obj _ _ st6);have again : ∀ {σ7 : St} {H7 : Hp} {s7 : Shared} {m' : Nat}, Inv (cG X N' scope cl s2 (ay H s.heap.objs.size (.lst [])) fp aa) ([] ++ lz fp s6.heap) σ7 H7 s7 -> m' < n -> W (i + 1) m' σ7 H7 ->
     ∃ m, m < n /\ ∃ i σ' H', Inv (cG X N' scope cl s2 (ay H s.heap.objs.size (.lst [])) fp aa) [] σ' H' s7 /\ tn i s7.heap /\ (∀ b ∈ fp, H' b = none) /\ W i m σ' H' := fun {σ7 H7 s7 m'} I7 hm w7 => by
    refine ⟨m', hm, i + 1, σ7, H7, I7.unpinned, Tn.keep _ _ _ st6 fun b hb o e => (I7.pin (b, o) (List.mem_append_right _ (List.mem_append_right _ (iP hb e)))).1, fun b hb => ?_, w7⟩;obtain ⟨o, e, d⟩ := Tn.obj _ _ st6 b hb;exact (I7.pin (b, o) (List.mem_append_right _ (List.mem_append_right _ (iP hb e)))).2.1
   refine bq (hg _ _ _ _ _ _ s6 σ3 H6 x u _ I6' r6 (step x H6 y6)) fun _ s7 ⟨σ7, H7, I7, q7⟩ => ?_
   refine bq (ht _ _ _ _ _ _ s7 σ7 H7 _ I7 q7) fun ok s8 ⟨H8, I8, q8⟩ => ?_
   cases ok with
   | false =>
    simp only [Bool.false_eq_true, if_false] at q8 ⊢;obtain ⟨m', hm, w8⟩ := q8;exact again I8 hm w8
   | true =>
    simp only [if_true] at q8 ⊢;refine bq (he _ _ _ _ _ _ s8 σ7 H8 _ I8 q8) fun y s9 ⟨yv, H9, I9, r9, ys, e9, l9, m', hm, w9⟩ => ?_
    refine bq (lD _ s9 σ7 H9 (.ref s.heap.objs.size) [yv] (.ref s.heap.objs.size) [y] (fun _ H' => H' = ay H9 s.heap.objs.size (.lst (ys ++ [yv]))) I9 rfl (.cons r9 .nil) ⟨_, ys, yv, rfl, rfl, e9, l9, rfl⟩) fun _ s10 ⟨_, H10, I10, _, Dd⟩ => ?_
    subst Dd;exact again I10 hm w9
 have st5 : tn 0 (pushCells (s2.heap.push { cls := .type "dict", data := .dict #[] }) scope.names) := by subst hs2; exact st3
 have fin := codeAny_compStart_list (loop _ rfl) (Tn.self X.A 0 _ _ (notedBy (model X.prog X.w) X.A (cG X N' scope cl s2 (ay H s.heap.objs.size (.lst [])) fp aa).env fun x s' => RR (.ref s.heap.objs.size) s2.heap.objs.size (.error x) s') st5 (loop _ rfl));subst hs2;exact fin
end
section
variable {X : Cx} {N' : List Str} {scope : Scope} {aa : List (Addr × Obj)} {σ : St} {elt iter tg : Expr} {ifs : List Expr} {pos : Pos} {wi : TI} {g : TG} {tt : TT} {te : TE}
theorem sQ (T : mr X N' scope) : ∀ x ∈ scope.names, x.2 = .local -> scope.names.lookup x.1 = some .local := fun x hx e => by
 obtain ⟨n, k⟩ := x;cases e;exact eF T.nd hx
theorem Ed (hc : X.calm = true) (T : mr X N' scope) (hi : PI X tg iter wi) (hg : ∀ cl s H fp aa, PG (cG X N' scope cl s H fp aa) tg g) (ht : ∀ cl s H fp aa, vq (cG X N' scope cl s H fp aa) ifs tt)
  (he : ∀ cl s H fp aa, PE (cG X N' scope cl s H fp aa) elt te) (hs : autoParam (∀ x, foldedSetIterable iter X.env x = pure x) li._auto_1) :
  PE X (.ListComp elt [⟨tg, iter, ifs, 0⟩] scope pos) (j5 (N'.length - X.N.length) wi g tt te) := by
 intro aa s σ H Q I h;obtain ⟨cl, hclos, hcl, hfr⟩ := oG (scope := scope) (env := X.env) fun x hx => I.ok.has x (T.free x hx)
 rw [eval_ListComp];refine wpAny_comprehension_free (use := none) rfl hs hclos T.kind (sQ T) (wpAny_mono (hi aa s σ H _ I h) (fun xv s1 h1 => wpAny_mono h1 (fun itv s2 h2 => ?_) fun _ _ e => e) fun _ _ e => e);obtain ⟨it, fp, tn, J, H2, rfl, I2, Tn, st2, f2, R⟩ := h2;refine sR (Q := Q) (RR := fun acc C => compPost (model X.prog X.w) X.A X.xe none (EP X aa σ Q) acc C) hc T hcl hfr hg ht he I2 Tn st2 f2 R ?_;rintro p C s3 H3 I3 q ⟨m, hn⟩ hC hle;refine ⟨m, hn, fun h' hs' => ⟨.ref p, H3, ?_, rfl, q⟩⟩;refine I3.turned (t' := s3.toks) (it := C) (fun b o hb e => (hs'.2 b hb).trans e) hC ?_ (.inr (Nat.le_trans I2.sz hle)) (fun x c e => ?_) fun p hp => ?_
 ·exact Ne.symm (Nat.ne_of_lt (Nat.lt_of_lt_of_le I2.lt hle))
 ·obtain ⟨v, z⟩ := I2.cell x c e
  exact Nat.ne_of_lt (Nat.lt_of_lt_of_le z.lt hle)
 ·exact Nat.ne_of_lt (Nat.lt_of_lt_of_le (Heap.lt_size (I2.pin p hp).1) hle)
theorem xh {i : Nat} {y : Str} {py spos : Pos} (hN : X.N.Nodup) (hiN : X.N[i]? = some y) (hx : o6 X.env.scope y) (hsw : swapsWith (.ListComp elt [⟨tg, iter, ifs, 0⟩] scope pos) (some (.Name y py)) spos.line X.env = pure true)
  (hc : X.calm = true) (T : mr X N' scope) (hi : PI X tg iter wi) (hg : ∀ cl s H fp aa, PG (cG X N' scope cl s H fp aa) tg g) (ht : ∀ cl s H fp aa, vq (cG X N' scope cl s H fp aa) ifs tt)
  (he : ∀ cl s H fp aa, PE (cG X N' scope cl s H fp aa) elt te) (hs : autoParam (∀ x, foldedSetIterable iter X.env x = pure x) li._auto_1) (hf : autoParam (X.fn y = true \/ X.env.scope.names.lookup y = some .local) o7._auto_1) :
  PS X (.Assign [.Name y py] (.ListComp elt [⟨tg, iter, ifs, 0⟩] scope pos) spos) (yz (j5 (N'.length - X.N.length) wi g tt te) (ou i)) := by
 intro aa s σ H D I h;obtain ⟨cl, hclos, hcl, hfr⟩ := oG (scope := scope) (env := X.env) fun x hx => I.ok.has x (T.free x hx)
 rw [exec_Assign_Name_used _ _ _ _ hsw];refine wpAny_bind (wpAny_standAt (wpAny_bind ?_));show wpAny _ X.A (do let _ <- comprehension (.ListComp elt [⟨tg, iter, ifs, 0⟩] scope pos) scope X.env _ (newList []) false (eval iter X.env) (some (assign (.Name y py) X.env))) _ _ s;refine wpAny_bind (wpAny_mono (wpAny_comprehension_free (use := some (assign (.Name y py) X.env)) (Q := fun _ s' => SP X aa D .next s') rfl hs hclos T.kind (sQ T)
  (wpAny_mono (hi aa s σ H _ I h) (fun xv s1 h1 => wpAny_mono h1 (fun itv s2 h2 => ?_) fun _ _ e => e) fun _ _ e => e)) (fun _ s' hq => wpAny_pure (wpAny_pure hq)) fun _ _ e => e)
 obtain ⟨it, fp, tn, J, H2, rfl, I2, Tn, st2, f2, R⟩ := h2;refine sR (Q := fun x H1 => ou i x σ H1 D.nx) (RR := fun acc C => compPost (model X.prog X.w) X.A X.xe (some (assign (.Name y py) X.env)) (fun _ s' => SP X aa D .next s') acc C) hc T hcl hfr hg ht he I2 Tn st2 f2 R ?_;rintro p C s3 H3 I3 q ⟨m, hn⟩ hC hle;have hCL : C ≠ X.env.locals := Ne.symm (Nat.ne_of_lt (Nat.lt_of_lt_of_le I2.lt hle));have hCc : ∀ x c, X.env.cells.lookup x = some c -> c ≠ C := fun x c e => by
  obtain ⟨v, z⟩ := I2.cell x c e;exact Nat.ne_of_lt (Nat.lt_of_lt_of_le z.lt hle)
 show wpAny _ X.A (assign (.Name y py) X.env (.ref p)) _ _ _;refine wpAny_assign_Name (qa (v := .ref p) I3 hN hiN hx rfl (fun s4 I4 ⟨a, sb, ha⟩ => ?_) hf);have hne : C ≠ a := by
  rcases ha with e | e
  ·rw [e]; exact hCL
  ·exact (hCc _ _ e).symm
 refine ⟨m, hn.sameBut sb hne, fun h' hs' => ⟨_, H3, ?_, q⟩⟩;refine I4.turned (t' := s4.toks) (it := C) (fun b o hb e => (hs'.2 b hb).trans e) hC hCL (.inr (Nat.le_trans I2.sz hle)) hCc fun p hp => ?_
 exact Nat.ne_of_lt (Nat.lt_of_lt_of_le (Heap.lt_size (I2.pin p hp).1) hle)
theorem iA {t t' : TI} (h : PI X tg iter t) (i : ∀ σ H R, t' σ H R -> t σ H R) : PI X tg iter t' := fun aa s σ H R I h' => h aa s σ H R I (i σ H R h')
end
end L2
namespace DD
open PySem PySem.Spec PyProof.Rows L2
structure ni (K : PySem.W.Frag) (J : It) (xs : List D) (F : Addr -> Prop) (H : Hp) : Prop where
 item : ∀ i d F1 H1, Ext F H F1 H1 -> (∀ a, F1 a -> ∃ o, H1 a = some o) -> xs[i]? = some d -> J.go i H1 /\ ∀ x H2, J.yld i H1 x H2 -> ∃ F2, Grow F1 H1 F2 H2 /\ Ow K F2 H2 d x []
 done : ∀ F1 H1, Ext F H F1 H1 -> J.stop xs.length H1
noncomputable abbrev DI := ar -> Option (List D × ar)
noncomputable def Gb (K : PySem.W.Frag) (c : DI) : TI := fun σ H R => ∃ F Ro σD xs σD', Rel K F H σD σ Ro /\ c σD = some (xs, σD') /\ ∀ F' H' J, Ext F H F' H' -> Rel K F' H' σD' σ Ro -> ni K J xs F' H' -> R J H'
noncomputable def QI (X : Cx) (tg iter : Expr) (c : DI) : Prop := PI X tg iter (Gb X.K c)
noncomputable def ju (c : DE) : DI := fun σ => (c σ).bind fun p => match p.1 with | .lst _ xs => some (D.fzL xs, p.2) | _ => none
noncomputable def qg (c : DA) : DI := fun σ => (c σ).bind fun p => match p.1 with | [.int j] => if sk j = true then some (jf 0 j, p.2) else none | _ => none
noncomputable def vb (c : DA) : DI := fun σ => (c σ).bind fun p => match p.1 with | [.int i, .int j] => if (sk i && sk j) = true then some (jf i j, p.2) else none | _ => none
section
variable {X : Cx} {tg e a b : Expr} {c : DE} {ca : DA} {p1 pos1 : Pos}
theorem qf {K : PySem.W.Frag} {F : Addr -> Prop} {H : Hp} {lo hi : Int} : ni K (vx lo (hi - lo).toNat) (jf lo hi) F H where
 item := fun i d F1 H1 _ _ e => by
  have hl : (jf lo hi).length = (hi - lo).toNat := by simp [jf]
  have hi' : i < (hi - lo).toNat := by rw [<- hl]; exact (List.getElem?_eq_some_iff.mp e).1
  have ed : d = .int (lo + i) := by
   unfold jf at e;rw [List.getElem?_map, List.getElem?_range hi'] at e;exact (Option.some.inj e).symm
  subst ed;exact ⟨hi', fun x H2 hq0 => by obtain ⟨e1, e2⟩ := hq0; subst e1; subst e2; exact ⟨F1, Grow.refl, Ow.of_sc rfl⟩⟩
 done := fun F1 H1 _ => by show (hi - lo).toNat <= (jf lo hi).length; simp [jf]
theorem ES {α β : Type} {a : α} {vs : List β} (h : [a].length = vs.length) : ∃ v, vs = [v] := by
 cases vs with
 | nil => cases h
 | cons v vs => cases vs with
  | nil => exact ⟨v, rfl⟩
  | cons _ _ => simp at h
theorem Gn {α β : Type} {a b : α} {vs : List β} (h : [a, b].length = vs.length) : ∃ v u, vs = [v, u] := by
 cases vs with
 | nil => cases h
 | cons v vs =>
  obtain ⟨u, rfl⟩ := ES (a := a) (vs := vs) (Nat.succ.inj h);exact ⟨v, u, rfl⟩
theorem qO (hgl : Gl X "range") (hm : X.mg "range" = none) (ha : QA X [a] ca) (hs : autoParam (starEach [a] X.env = [(false, eval a X.env)]) au._auto_1) : QI X tg (.Call (.Name "range" p1) [a] [] pos1) (qg ca) :=
 iA (xl hgl hm ha hs) fun σ H R hq0 => by
  obtain ⟨F, Ro, σD, xs, σD', r, ec, k⟩ := hq0;unfold qg at ec;rcases h : ca σD with _ | ⟨ys, σ1⟩
  ·rw [h] at ec; cases ec
  ·rw [h] at ec; simp only [bind_some] at ec
   refine ⟨F, Ro, σD, ys, σ1, r, h, fun F1 H1 vs x1 hl r1 => ?_⟩;split at ec
   ·rename_i j
    split at ec
    ·rename_i hj
     cases ec;obtain ⟨v, rfl⟩ := ES hl;have hv : v = .int j := (r1.bor (d := .int j) (v := v) (by simp)).int;subst hv;unfold sk at hj;simp only [decide_eq_true_eq] at hj;have q : ni X.K (vx 0 (j - 0).toNat) (jf 0 j) F1 H1 := qf;rw [Int.sub_zero] at q;exact ⟨j, rfl, hj.1, hj.2, k F1 H1 _ x1 (r1.popN (S := [(D.int j, V.int j)])) q⟩
    ·cases ec
   ·cases ec
theorem zP (hgl : Gl X "range") (hm : X.mg "range" = none) (ha : QA X [a, b] ca) (hs : autoParam (starEach [a, b] X.env = [(false, eval a X.env), (false, eval b X.env)]) au._auto_1) (hs2 : autoParam (starEach [b] X.env = [(false, eval b X.env)]) au._auto_1) : QI X tg (.Call (.Name "range" p1) [a, b] [] pos1) (vb ca) :=
 iA (xk hgl hm ha hs hs2) fun σ H R hq0 => by
  obtain ⟨F, Ro, σD, xs, σD', r, ec, k⟩ := hq0;unfold vb at ec;rcases h : ca σD with _ | ⟨ys, σ1⟩
  ·rw [h] at ec; cases ec
  ·rw [h] at ec; simp only [bind_some] at ec
   refine ⟨F, Ro, σD, ys, σ1, r, h, fun F1 H1 vs x1 hl r1 => ?_⟩;split at ec
   ·rename_i i j
    split at ec
    ·rename_i hj
     cases ec;obtain ⟨v, u, rfl⟩ := Gn hl;have hv : v = .int i := (r1.bor (d := .int i) (v := v) (by simp)).int;have hu : u = .int j := (r1.bor (d := .int j) (v := u) (by simp)).int;subst hv; subst hu;unfold sk at hj;simp only [Bool.and_eq_true, decide_eq_true_eq] at hj;exact ⟨i, j, rfl, ⟨hj.1.1, hj.1.2, hj.2.1, hj.2.2⟩, k F1 H1 _ x1 (r1.popN (S := [(D.int i, V.int i), (D.int j, V.int j)])) qf⟩
    ·cases ec
   ·cases ec
theorem zg {K : PySem.W.Frag} {F : Addr -> Prop} {H : Hp} {xs : List D} {a : Addr} {vs : List V} (fl : FL K F H a vs) (ol : OwL K F H xs vs []) : ni K (Dw K a) xs F H where
 item := fun i d F1 H1 x1 _ e => by
  obtain ⟨w, La, Lx, Lb, e1, eL, o, _⟩ := ol.kid e;have eLx : Lx = [] := (List.append_eq_nil_iff.mp (List.append_eq_nil_iff.mp eL.symm).1).2;subst eLx;refine ⟨⟨vs, w, (fl.ext x1).sq, e1⟩, fun x H2 ⟨e2, hx⟩ => ?_⟩;subst e2
  have := hx vs (fl.ext x1).sq
  rw [e1] at this;cases this;exact ⟨F1, Grow.refl, o.mono x1 (fun a ha => by cases ha)⟩
 done := fun F1 H1 x1 => ⟨vs, (fl.ext x1).sq, by rw [ol.length]; exact Nat.le_refl _⟩
theorem jh (he : QE X e c) : QI X tg e (ju c) := iA (A3 he) fun σ H R hq0 => by
 obtain ⟨F, Ro, σD, xs, σD', r, ec, k⟩ := hq0;unfold ju at ec;rcases h : c σD with _ | ⟨d, σ1⟩
 ·rw [h] at ec; cases ec
 ·rw [h] at ec; simp only [bind_some] at ec
  refine ⟨F, Ro, σD, d, σ1, r, h, fun F1 H1 v x1 r1 => ?_⟩;split at ec
  ·cases ec
   obtain ⟨F2, x2, r2, o2⟩ := r1.freeze;simp only [D.fz, Ow] at o2;obtain ⟨a, vs, rfl, fl, ol, _⟩ := o2;exact ⟨a, rfl, ⟨vs, fl.sq⟩, k F2 H1 _ (x1.trans x2) r2.pop (zg fl ol)⟩
  ·cases ec
end
noncomputable def eD (c : DI) (g : DG) (b : DS) : DS := fun σ => (c σ).bind fun p => eI g b p.1 p.2
section
variable {X : Cx} {e tg : Expr} {g : DG} {s : DS} {pos : Pos} {W W' : List Nat} {body : List Stmt}
theorem Bv {F : Addr -> Prop} {H : Hp} {R : Ro} {σD : ar} {σ : St} {xs : List D} {J : It} {En : mq} {o : Out} (r : Rel X.K F H σD σ R) (j : ni X.K J xs F H) (h : eI g s xs σD = some o)
  (k : ∀ F' H' σ', Ext F H F' H' -> Kp (W ++ W') σ σ' -> Th X.K En R F' H' σ' o) :
  ∃ W1 : Nat -> Nat -> St -> Hp -> Prop, (∃ m, W1 0 m σ H) /\ ∀ i m σ H, W1 i m σ H ->
   (J.stop i H /\ En.nx σ H) \/ (J.go i H /\ ∃ N : St -> Hp -> Prop, (∀ σ' H', N σ' H' -> ∃ m', m' < m /\ W1 (i + 1) m' σ' H') /\ ∀ x H', J.yld i H x H' -> rG X.K g W x σ H' fun σ2 H2 => rS X.K s W' { En with nx := N, ct := N, bk := En.nx } σ2 H2) := by
 refine ⟨fun i m σ1 H1 => m = xs.length - i /\ i <= xs.length /\ ∃ F1 σD1, Ext F H F1 H1 /\ Kp (W ++ W') σ σ1 /\ Rel X.K F1 H1 σD1 σ1 R /\ eI g s (xs.drop i) σD1 = some o, ⟨_, rfl, Nat.zero_le _, F, σD, Ext.refl, Kp.refl, r, by simpa using h⟩, ?_⟩;rintro i m σ1 H1 ⟨rfl, hle, F1, σD1, x1, kp1, r1, h1⟩;rcases Nat.lt_or_ge i xs.length with hi | hi
 ·right
  obtain ⟨go, yl⟩ := j.item i _ F1 H1 x1 r1.g.dom (List.getElem?_eq_getElem hi);refine ⟨go, fun σ' H' => ∃ F1 σD1, Ext F H F1 H' /\ Kp (W ++ W') σ σ' /\ Rel X.K F1 H' σD1 σ' R /\ eI g s (xs.drop (i + 1)) σD1 = some o, fun σ' H' q => ⟨xs.length - (i + 1), by omega, rfl, hi, q⟩, fun x H2 hy => ?_⟩;obtain ⟨F2, gr, ox⟩ := yl x H2 hy;rw [List.drop_eq_getElem_cons hi] at h1;exact Ax (R := R) (R0 := R) (W := W) (W' := W') (fun _ _ _ _ _ _ h => h) ((r1.grow gr).push ox) (x1.trans gr.x) kp1 h1 k fun F3 H3 σD3 σ3 x3 kp3 r3 h3 => ⟨F3, σD3, (x1.trans gr.x).trans x3, kp3, r3, h3⟩
 ·left
  have ei : i = xs.length := Nat.le_antisymm hle hi;subst ei;rw [List.drop_length] at h1;simp only [eI] at h1;cases h1;exact ⟨j.done F1 H1 x1, k F1 H1 σ1 x1 kp1 r1⟩
theorem eA {c : DI} (hc : X.calm = true) (hi : QI X tg e c) (hg : QG X tg g W) (hb : oZ X body s W') (hp : PassesOwn (model X.prog X.w) X.A X.env X.xe) (hf : autoParam (∀ x, foldedSetIterable e X.env x = pure x) li._auto_1) : QS X (.For tg e body [] pos) (eD c g s) (W ++ W') :=
 jF (Ck hp hc hi hg hb hf) fun En σ H hq0 => by
  obtain ⟨F, R, σD, o, r, ec, k⟩ := hq0;unfold eD at ec;rcases h : c σD with _ | ⟨xs, σ1⟩
  ·rw [h] at ec; cases ec
  ·rw [h] at ec; simp only [bind_some] at ec
   refine ⟨F, R, σD, xs, σ1, r, h, fun F1 H1 J x1 r1 j => ?_⟩;exact Bv (X := X) (W := W) (W' := W') (g := g) (s := s) (En := En) r1 j ec fun F2 H2 σ2 x2 kp => k F2 H2 σ2 (x1.trans x2) kp
end
noncomputable def jW (g : DG) (t : DT) (c : DE) : List D -> ar -> Option (List D × ar)
 | [], σ => some ([], σ)
 | x :: xs, σ => (g x σ).bind fun σ1 => (t σ1).bind fun p => if p.1 = true then (c p.2).bind fun q => (jW g t c xs q.2).map fun r => (q.1 :: r.1, r.2) else jW g t c xs p.2
noncomputable def iJ (k : Nat) (i : DI) (g : DG) (t : DT) (c : DE) : DE := fun σ => (i σ).bind fun p => if p.1.length <= sizeLine then (jW g t c p.1 (p.2 ++ List.replicate k none)).map fun r => (.lst true r.1, r.2.take p.2.length) else none
noncomputable def mw : DT := fun σ => some (true, σ)
noncomputable def vo (X : Cx) (ifs : List Expr) (t : DT) : Prop := vq X ifs (rT X.K t)
section
variable {X : Cx} {e tg elt iter : Expr} {ifs : List Expr} {g : DG} {t : DT} {c : DE} {i : DI} {pos : Pos} {W : List Nat} {N' : List Str} {scope : Scope}
theorem mB : vo X [] mw := by
 intro aa s σ H Q I hh;obtain ⟨F, R, σD, b, σD', r, ec, k⟩ := hh;exact A2 aa s σ H Q I (by cases ec; exact k F H Ext.refl r)
theorem pA (h : QT X e t) : vo X [e] t := A1 h
theorem Rel.ext0 {K : PySem.W.Frag} {F : Addr -> Prop} {H : Hp} {σD : ar} {σ : St} {R : Ro} {k : Nat} (r : Rel K F H σD σ R) : Rel K F H (σD ++ List.replicate k none) (σ ++ List.replicate k none) R := by
 have hm : ∀ {σD : ar} {σ : St}, Mt σD σ -> Mt (σD ++ List.replicate k none) (σ ++ List.replicate k none) /\ sl (σD ++ List.replicate k none) (σ ++ List.replicate k none) = sl σD σ := by
  intro σD
  induction σD with
  | nil => intro σ h; cases σ with | nil => exact ⟨pH, nv⟩ | cons _ _ => cases h
  | cons o σD ih =>
   intro σ h;cases σ with
   | nil => cases o <;> cases h
   | cons v σ =>
    cases o with
    | none => exact ih (σ := σ) h
    | some d =>
     cases v with
     | none => cases h
     | some v =>
      have q := ih (σ := σ) h;exact ⟨q.1, congrArg ((d, v) :: ·) q.2⟩
 obtain ⟨h1, h2⟩ := hm r.mt;exact ⟨h1, by rw [h2]; exact r.g⟩
theorem Rel.cut {K : PySem.W.Frag} {F : Addr -> Prop} {H : Hp} {R : Ro} : ∀ {σD : ar} {σ σ0 : St} {n : Nat}, σ0.length = n -> σ.take n = σ0 -> Rel K F H σD σ R -> Rel K F H (σD.take n) σ0 R := by
 intro σD σ σ0 n hn he r;subst he;have hm : ∀ {σD : ar} {σ : St} (n : Nat), Mt σD σ -> Mt (σD.take n) (σ.take n) /\ ∃ S, (sl σD σ) = sl (σD.take n) (σ.take n) ++ S := by
  intro σD
  induction σD with
  | nil => intro σ n h; cases σ with | nil => simp [Mt, sl] | cons _ _ => cases h
  | cons o σD ih =>
   intro σ n h;cases σ with
   | nil => cases o <;> cases h
   | cons v σ =>
    cases n with
    | zero => exact ⟨trivial, _, rfl⟩
    | succ n =>
     cases o with
     | none => exact ih (σ := σ) n h
     | some d =>
      cases v with
      | none => cases h
      | some v =>
       obtain ⟨h1, S, h2⟩ := ih (σ := σ) n h;refine ⟨h1, S, ?_⟩;show (d, v) :: sl σD σ = (d, v) :: sl (σD.take n) (σ.take n) ++ S;rw [h2]; rfl
 obtain ⟨h1, S, h2⟩ := hm n r.mt;refine ⟨h1, ?_⟩;have g := r.g;rw [h2] at g;have g2 : G K F H (S ++ (sl (σD.take n) (σ.take n) ++ R)) := g.perm (by rw [List.append_assoc]; exact List.perm_append_comm_assoc _ _ _);exact g2.popN
theorem zV {F : Addr -> Prop} {H : Hp} {R : Ro} {σD σD' : ar} {σ : St} {xs ys : List D} {J : It} {k : Nat} {Q : VK} (r : Rel X.K F H σD σ R) (j : ni X.K J xs F H) (hz : xs.length <= sizeLine) (hw : ∀ i ∈ W, σ.length <= i)
  (h : jW g t c xs (σD ++ List.replicate k none) = some (ys, σD')) (kk : ∀ F' H' v, Ext F H F' H' -> Rel X.K F' H' (σD'.take σD.length) σ ((.lst true ys, v) :: R) -> Q v H') (p : Addr) (hp : H p = none) :
  ∃ W1 : Nat -> Nat -> St -> Hp -> Prop, (∃ m, W1 0 m (σ ++ List.replicate k none) (ay H p (.lst []))) /\ ∀ i m σ' H', W1 i m σ' H' ->
   (J.stop i H' /\ Q (.ref p) H') \/ (J.go i H' /\ ∀ x H2, J.yld i H' x H2 -> rG X.K g W x σ' H2 fun σ2 H3 => rT X.K t σ2 H3 fun ok H4 => if ok = true then
    rE X.K c σ2 H4 fun y H5 => ∃ ys, H5 p = some (.lst ys) /\ ys.length < sizeLine /\ ∃ m', m' < m /\ W1 (i + 1) m' σ2 (ay H5 p (.lst (ys ++ [y])))
    else ∃ m', m' < m /\ W1 (i + 1) m' σ2 H4) := by
 have hlen := r.mt.length;obtain ⟨r0, x0⟩ := (r.ext0 (k := k)).alloc (o := .lst []) hp;have r1 : Rel X.K F (ay H p (.lst [])) (σD ++ List.replicate k none) (σ ++ List.replicate k none) ((.lst true [], .ref p) :: R) := r0.formL (xs := []) (vs := []) rfl bG;refine ⟨fun i m σ1 H1 => m = xs.length - i /\ i <= xs.length /\ ∃ F1 σD1 ds zs, Ext F H F1 H1 /\ Kp W (σ ++ List.replicate k none) σ1 /\ Rel X.K F1 H1 σD1 σ1 ((.lst true ds, .ref p) :: R) /\ ds.length <= i /\ jW g t c (xs.drop i) σD1 = some (zs, σD') /\ ds ++ zs = ys,
  ⟨_, rfl, Nat.zero_le _, F, _, [], ys, x0, Kp.refl, r1, Nat.zero_le _, by simpa using h, rfl⟩, ?_⟩
 rintro i m σ1 H1 ⟨rfl, hle, F1, σD1, ds, zs, x1, kp1, r2, hds, h1, hys⟩;rcases Nat.lt_or_ge i xs.length with hi | hi
 ·right
  obtain ⟨go, yl⟩ := j.item i _ F1 H1 x1 r2.g.dom (List.getElem?_eq_getElem hi);refine ⟨go, fun x H2 hy => ?_⟩;obtain ⟨F2, gr, ox⟩ := yl x H2 hy;rw [List.drop_eq_getElem_cons hi] at h1;simp only [jW] at h1;rcases e1 : g xs[i] σD1 with _ | σ3
  ·rw [e1] at h1; cases h1
  ·rw [e1] at h1; simp only [bind_some] at h1
   refine ⟨F2, _, σD1, xs[i], σ3, (r2.grow gr).push ox, e1, fun F3 H3 σ4 x3 kp3 r3 => ?_⟩;rcases e2 : t σ3 with _ | ⟨ok, σ5⟩
   ·rw [e2] at h1; cases h1
   ·rw [e2] at h1; simp only [bind_some] at h1
    refine ⟨F3, _, σ3, ok, σ5, r3, e2, fun F4 H4 x4 r4 => ?_⟩;have xx := ((x1.trans gr.x).trans x3).trans x4;have kp5 := kp1.trans kp3;cases ok with
    | false =>
     simp only [Bool.false_eq_true, if_false] at h1 ⊢;exact ⟨xs.length - (i + 1), by omega, rfl, hi, F4, σ5, ds, zs, xx, kp5, r4, by omega, h1, hys⟩
    | true =>
     simp only [if_true] at h1 ⊢;rcases e3 : c σ5 with _ | ⟨d, σ6⟩
     ·rw [e3] at h1; cases h1
     ·rw [e3] at h1; simp only [bind_some] at h1
      obtain ⟨⟨ws, σ7⟩, e4, e5⟩ := bH h1;cases e5;refine ⟨F4, _, σ5, d, σ6, r4, e3, fun F5 H5 v x5 r5 => ?_⟩;obtain ⟨a, vs, ea, he, hl, r6⟩ := (r5.perm (.swap _ _ _)).openL;cases ea;refine ⟨vs, he, by omega, xs.length - (i + 1), by omega, rfl, hi, ?_⟩;have r7 : Rel X.K F5 H5 σ6 σ4 ((.cell, .ref p) :: ((ds ++ [d]).zip (vs ++ [v]) ++ R)) := by
       refine r6.perm (.cons _ ?_);rw [List.zip_append hl];simp
      obtain ⟨r8, x8⟩ := r7.write (o := .lst (vs ++ [v]));exact ⟨F5, σ6, ds ++ [d], ws, (xx.trans x5).trans x8, kp5, r8.formL (by simp [hl]) bG, by simp; omega, e4, by rw [<- hys]; simp⟩
 ·left
  have ei : i = xs.length := Nat.le_antisymm hle hi;subst ei;rw [List.drop_length] at h1;simp only [jW] at h1;cases h1;rw [List.append_nil] at hys;subst hys;refine ⟨j.done F1 H1 x1, kk F1 H1 _ x1 ?_⟩;rw [hlen];refine r2.cut rfl ?_;apply List.ext_getElem?;intro n;rcases Nat.lt_or_ge n σ.length with hn | hn
  ·rw [List.getElem?_take_of_lt hn, kp1 n (fun z => absurd (hw n z) oM), List.getElem?_append_left hn]
  ·rw [List.getElem?_eq_none (by simp; omega), List.getElem?_eq_none hn]
theorem DY (hc : X.calm = true) (T : mr X N' scope) (hi : QI X tg iter i) (hg : ∀ cl s H fp aa, QG (cG X N' scope cl s H fp aa) tg g W) (ht : ∀ cl s H fp aa, vo (cG X N' scope cl s H fp aa) ifs t)
  (he : ∀ cl s H fp aa, QE (cG X N' scope cl s H fp aa) elt c) (hw : ∀ i ∈ W, X.N.length <= i) (hs : autoParam (∀ x, foldedSetIterable iter X.env x = pure x) li._auto_1) :
  QE X (.ListComp elt [⟨tg, iter, ifs, 0⟩] scope pos) (iJ (N'.length - X.N.length) i g t c) := by
 rintro aa s σ H Q I ⟨F, R, σD, d, σD', r, ec, k⟩;have hlen : σ.length = X.N.length := I.len;refine Ed (X := X) (N' := N') (g := rG X.K g W) (tt := rT X.K t) (te := rE X.K c) hc T hi hg ht he hs aa s σ H Q I ?_;unfold iJ at ec;rcases h : i σD with _ | ⟨xs, σ1⟩
 ·rw [h] at ec; cases ec
 ·rw [h] at ec; simp only [bind_some] at ec
  split at ec
  ·rename_i hz
   obtain ⟨⟨ys, σ2⟩, e1, e2⟩ := bH ec;cases e2;refine ⟨F, R, σD, xs, σ1, r, h, fun F1 H1 J x1 r1 j p hp => ?_⟩;exact zV (X := X) (W := W) r1 j hz (fun i hi => by rw [hlen]; exact hw i hi) e1 (fun F2 H2 v x2 r2 => k F2 H2 v (x1.trans x2) r2) p hp
  ·cases ec
theorem wV (ix : Nat) {y : Str} {py spos : Pos} (hN : X.N.Nodup) (hc : X.calm = true) (T : mr X N' scope) (hi : QI X tg iter i) (hg : ∀ cl s H fp aa, QG (cG X N' scope cl s H fp aa) tg g W) (ht : ∀ cl s H fp aa, vo (cG X N' scope cl s H fp aa) ifs t)
  (he : ∀ cl s H fp aa, QE (cG X N' scope cl s H fp aa) elt c) (hw : ∀ i ∈ W, X.N.length <= i) (hsw : swapsWith (.ListComp elt [⟨tg, iter, ifs, 0⟩] scope pos) (some (.Name y py)) spos.line X.env = pure true)
  (hiN : autoParam (X.N[ix]? = some y) au._auto_1) (hx : autoParam (o6 X.env.scope y) Ap._auto_1) (hs : autoParam (∀ x, foldedSetIterable iter X.env x = pure x) li._auto_1) (hf : autoParam (X.fn y = true \/ X.env.scope.names.lookup y = some .local) o7._auto_1) :
  QS X (.Assign [.Name y py] (.ListComp elt [⟨tg, iter, ifs, 0⟩] scope pos) spos) (bN ix (iJ (N'.length - X.N.length) i g t c)) [ix] := by
 rintro aa s σ H En I ⟨F, R, σD, o, r, ec, k⟩;have hlen : σ.length = X.N.length := I.len;refine xh (X := X) (N' := N') (g := rG X.K g W) (tt := rT X.K t) (te := rE X.K c) hN hiN hx hsw hc T hi hg ht he hs hf aa s σ H En I ?_;unfold bN at ec;rcases h0 : iJ (N'.length - X.N.length) i g t c σD with _ | ⟨d0, σ0⟩
 ·rw [h0] at ec; cases ec
 ·rw [h0] at ec; simp only [bind_some] at ec
  split at ec
  ·rename_i hl
   cases ec;unfold iJ at h0;rcases h : i σD with _ | ⟨xs, σ1⟩
   ·rw [h] at h0; cases h0
   ·rw [h] at h0; simp only [bind_some] at h0
    split at h0
    ·rename_i hz
     obtain ⟨⟨ys, σ2⟩, e1, e2⟩ := bH h0;cases e2;refine ⟨F, R, σD, xs, σ1, r, h, fun F1 H1 J x1 r1 j p hp => ?_⟩;exact zV (X := X) (W := W) (Q := fun x H1 => ou ix x σ H1 En.nx) r1 j hz (fun i hi => by rw [hlen]; exact hw i hi) e1 (fun F2 H2 v x2 r2 => k F2 H2 _ (x1.trans x2) Kp.set (r2.store (by rw [<- r2.mt.length]; exact hl))) p hp
    ·cases h0
  ·cases ec
end
mutual
noncomputable def D.py : D -> Option PyData
 | .non => some .none
 | .bl b => some (.bool b)
 | .int i => some (.int i)
 | .str x => some (.str x)
 | .lst _ xs => (D.pyL xs).map .list
 | .tup xs => (D.pyL xs).map .tuple
 | _ => none
noncomputable def D.pyL : List D -> Option (List PyData)
 | [] => some []
 | x :: xs => (D.py x).bind fun p => (D.pyL xs).map fun ps => p :: ps
end
section
variable {X : Cx} {aa : List (Addr × Obj)} {σ : St} {H : Hp} {s : Shared} {F : Addr -> Prop}
theorem sK (I : L2.Inv X aa σ H s) {a : Addr} {vs : List V} (h : cZ X.K H a vs) : ∃ its o n, Vals vs its /\ s.heap.get? a = some o /\ o.cls = .type "list" /\ o.data = .seq its.toArray n := by
 obtain ⟨its, r, ⟨o, n, e, c, _, d⟩, _⟩ := I.list h;exact ⟨its, o, n, r, e, c, d⟩
theorem uT (I : L2.Inv X aa σ H s) {a : Addr} {vs : List V} (h : t6 X.K H a vs) : ∃ its o n, Vals vs its /\ s.heap.get? a = some o /\ o.cls = .type "tuple" /\ o.data = .seq its.toArray n := by
 obtain ⟨its, r, ⟨o, e, c, n, d⟩, _⟩ := I.tuple h;exact ⟨its, o, n, r, e, c, d⟩
mutual
theorem sh (I : L2.Inv X aa σ H s) : ∀ {d : D} {v : V} {L : List Addr} {p : PyData} {u : Value}, Ow X.K F H d v L -> d.py = some p -> RelV v u -> ∃ as, Reads s.heap u p as
 | .non, v, L, p, u, o, e, r => by simp only [D.py, Ow] at e o; cases e; obtain ⟨rfl, _⟩ := o; cases r; exact ⟨_, .none⟩
 | .bl b, v, L, p, u, o, e, r => by simp only [D.py, Ow] at e o; cases e; obtain ⟨rfl, _⟩ := o; cases r; exact ⟨_, .bool b⟩
 | .int i, v, L, p, u, o, e, r => by simp only [D.py, Ow] at e o; cases e; obtain ⟨rfl, _⟩ := o; obtain ⟨t, rfl⟩ := r; exact ⟨_, .int i t⟩
 | .str x, v, L, p, u, o, e, r => by simp only [D.py, Ow] at e o; cases e; obtain ⟨rfl, _⟩ := o; obtain ⟨t, rfl⟩ := r; exact ⟨_, .str x t⟩
 | .lst own xs, v, L, p, u, o, e, r => by
  simp only [D.py] at e;rcases h : D.pyL xs with _ | ps
  ·rw [h] at e; cases e
  ·rw [h] at e; cases e
   obtain ⟨a, vs, rfl, sq, L', ol⟩ := Bor.lst ⟨L, o⟩;cases r;obtain ⟨its, ob, n, rv, e1, e2, e3⟩ := sK I sq;obtain ⟨as, ra⟩ := lq I ol h rv;exact ⟨_, .list e1 e2 e3 ra⟩
 | .tup xs, v, L, p, u, o, e, r => by
  simp only [D.py] at e;rcases h : D.pyL xs with _ | ps
  ·rw [h] at e; cases e
  ·rw [h] at e; cases e
   obtain ⟨a, vs, rfl, sq, L', ol⟩ := Bor.tup ⟨L, o⟩;cases r;obtain ⟨its, ob, n, rv, e1, e2, e3⟩ := uT I sq;obtain ⟨as, ra⟩ := lq I ol h rv;exact ⟨_, .tuple e1 e2 e3 ra⟩
 | .hole, _, _, _, _, _, e, _ => by simp only [D.py] at e; cases e
 | .cell, _, _, _, _, _, e, _ => by simp only [D.py] at e; cases e
 | .node _ _, _, _, _, _, _, e, _ => by simp only [D.py] at e; cases e
 | .pin _ _, _, _, _, _, _, e, _ => by simp only [D.py] at e; cases e
 | .ty _, _, _, _, _, _, e, _ => by simp only [D.py] at e; cases e
 | .cls _, _, _, _, _, _, e, _ => by simp only [D.py] at e; cases e
 | .obj _ _ _ _, _, _, _, _, _, e, _ => by simp only [D.py] at e; cases e
 | .dct _ _ _, _, _, _, _, _, e, _ => by simp only [D.py] at e; cases e
theorem lq (I : L2.Inv X aa σ H s) : ∀ {xs : List D} {vs : List V} {L : List Addr} {ps : List PyData} {us : List Value}, OwL X.K F H xs vs L -> D.pyL xs = some ps -> Vals vs us -> ∃ as, ReadsAll s.heap us ps as
 | [], vs, L, ps, us, o, e, r => by
  simp only [D.pyL, OwL] at e o;cases e;obtain ⟨rfl, _⟩ := o;cases r;exact ⟨_, .nil⟩
 | x :: xs, vs, L, ps, us, o, e, r => by
  simp only [D.pyL, OwL] at e o;obtain ⟨v, ws, L1, L2, rfl, o1, o2, _⟩ := o;rcases h1 : D.py x with _ | p
  ·rw [h1] at e; cases e
  ·rw [h1] at e; simp only [bind_some] at e
   rcases h2 : D.pyL xs with _ | qs
   ·rw [h2] at e; cases e
   ·rw [h2] at e; cases e
    cases r with
    | cons r1 r2 =>
     obtain ⟨as, ra⟩ := sh I o1 h1 r1;obtain ⟨bs, rb⟩ := lq I o2 h2 r2;exact ⟨_, .cons ra rb⟩
end
theorem Bor.reads (I : L2.Inv X aa σ H s) {d : D} {v : V} {p : PyData} {u : Value} (b : Bor X.K F H d v) (e : d.py = some p) (r : RelV v u) : ∃ as, Reads s.heap u p as := by
 obtain ⟨L, o⟩ := b;exact sh I o e r
end
noncomputable def kJ (p q : PyData) : Bool := p.canLay0 && q.canLay0 && decide (min p.depth q.depth <= 50)
noncomputable def eB : D -> D -> Option D := fun x y => x.py.bind fun p => y.py.bind fun q => if kJ p q = true then some (.bl (PyData.eqv p q)) else none
noncomputable def jw : D -> D -> Option D := fun x y => x.py.bind fun p => y.py.bind fun q => if kJ p q = true then some (.bl (!PyData.eqv p q)) else none
section
variable {X : Cx}
theorem tH {x y d : D} (h : eB x y = some d) : ∃ p q, x.py = some p /\ y.py = some q /\ p.canLay0 = true /\ q.canLay0 = true /\ min p.depth q.depth <= 50 /\ d = .bl (PyData.eqv p q) := by
 unfold eB at h;rcases h1 : x.py with _ | p
 ·rw [h1] at h; cases h
 ·rw [h1] at h; simp only [bind_some] at h
  rcases h2 : y.py with _ | q
  ·rw [h2] at h; cases h
  ·rw [h2] at h; simp only [bind_some] at h
   split at h
   ·rename_i hk
    cases h;simp only [kJ, Bool.and_eq_true, decide_eq_true_eq] at hk;exact ⟨p, q, rfl, rfl, hk.1.1, hk.1.2, hk.2, rfl⟩
   ·cases h
theorem tE {x y d : D} (h : jw x y = some d) : ∃ p q, x.py = some p /\ y.py = some q /\ p.canLay0 = true /\ q.canLay0 = true /\ min p.depth q.depth <= 50 /\ d = .bl (!PyData.eqv p q) := by
 unfold jw at h;rcases h1 : x.py with _ | p
 ·rw [h1] at h; cases h
 ·rw [h1] at h; simp only [bind_some] at h
  rcases h2 : y.py with _ | q
  ·rw [h2] at h; cases h
  ·rw [h2] at h; simp only [bind_some] at h
   split at h
   ·rename_i hk
    cases h;simp only [kJ, Bool.and_eq_true, decide_eq_true_eq] at hk;exact ⟨p, q, rfl, rfl, hk.1.1, hk.1.2, hk.2, rfl⟩
   ·cases h
theorem dX (hu : X.A.units + 64 < cLine) : dG X (compareOp .Eq) eB := by
 refine ⟨fun aa s σ H x y v u Q I rx ry pz => ?_, fun x y d h => ?_⟩
 ·obtain ⟨F, dx, dy, d, w, b1, b2, eg, hw, q⟩ := pz
  obtain ⟨p, r, e1, e2, c1, c2, hd, rfl⟩ := tH eg;cases hw;obtain ⟨as, ra⟩ := b1.reads I e1 rx;obtain ⟨bs, rb⟩ := b2.reads I e2 ry;exact SeqAt.eqOverData _ _ _ _ _ _ _ _ _ _ _ _ ra rb c1 c2 oM ⟨.bl _, H, I, rfl, q⟩
 ·obtain ⟨p, r, _, _, _, _, _, rfl⟩ := tH h
  exact ⟨_, rfl⟩
theorem jV (hu : X.A.units + 64 < cLine) : dG X (compareOp .NotEq) jw := by
 refine ⟨fun aa s σ H x y v u Q I rx ry pz => ?_, fun x y d h => ?_⟩
 ·obtain ⟨F, dx, dy, d, w, b1, b2, eg, hw, q⟩ := pz
  obtain ⟨p, r, e1, e2, c1, c2, hd, rfl⟩ := tE eg;cases hw;obtain ⟨as, ra⟩ := b1.reads I e1 rx;obtain ⟨bs, rb⟩ := b2.reads I e2 ry;exact SeqAt.neOverData _ _ _ _ _ _ _ _ _ _ _ _ ra rb c1 c2 oM ⟨.bl _, H, I, rfl, q⟩
 ·obtain ⟨p, r, _, _, _, _, _, rfl⟩ := tE h
  exact ⟨_, rfl⟩
end
noncomputable def BorL (K : PySem.W.Frag) (F : Addr -> Prop) (H : Hp) : List D -> List V -> Prop
 | [], [] => True
 | d :: ds, v :: vs => Bor K F H d v /\ BorL K F H ds vs
 | _, _ => False
theorem BorL.of {K : PySem.W.Frag} {F : Addr -> Prop} {H : Hp} {σD : ar} {σ : St} : ∀ {ds : List D} {vs : List V} {R : Ro}, ds.length = vs.length -> Rel K F H σD σ (ds.zip vs ++ R) -> BorL K F H ds vs := by
 intro ds
 induction ds with
 | nil =>
  intro vs R h r;cases vs with
  | nil => trivial
  | cons _ _ => cases h
 | cons d ds ih =>
  intro vs R h r;cases vs with
  | nil => cases h
  | cons v vs => exact ⟨r.bor List.mem_cons_self, ih (R := R) (Nat.succ.inj h) (Rel.pop (R := ds.zip vs ++ R) r)⟩
structure fN (X : Cx) (f : Value) (g : List D -> Option D) : Prop where
 run : CallR X f (fun vs H Q => ∃ F ds d w, BorL X.K F H ds vs /\ g ds = some d /\ d.sc = some w /\ Q w H)
 sc : ∀ ds d, g ds = some d -> ∃ w, d.sc = some w
noncomputable def ld : List DP -> ar -> Option (List D)
 | [], _ => some []
 | p :: ps, σ => (p σ).bind fun d => (ld ps σ).map fun ds => d :: ds
noncomputable def bZ (g : List D -> Option D) (ps : List DP) : DP := fun σ => (ld ps σ).bind g
noncomputable def iz (g : List D -> Option D) (ca : DA) : DE := fun σ => (ca σ).bind fun p => (g p.1).map fun d => (d, p.2)
noncomputable def EO (K : PySem.W.Frag) (ps : List DP) : TA := fun σ H Q => ∃ F R σD ds, Rel K F H σD σ R /\ ld ps σD = some ds /\ ∀ F' H' vs, Grow F H F' H' -> BorL K F' H' ds vs -> Q vs H'
noncomputable def vp (X : Cx) (es : List Expr) (ps : List DP) : Prop := PA X es (EO X.K ps)
section
variable {X : Cx} {e : Expr} {es : List Expr} {p : DP} {ps : List DP} {x : Str} {p1 pos : Pos} {id T : String} {g : List D -> Option D} {ca : DA}
theorem bF : vp X [] [] := fX dQ fun σ H Q hq0 => by
 obtain ⟨F, R, σD, ds, r, ec, k⟩ := hq0;cases ec; exact k F H [] Grow.refl trivial
theorem aM (ha : QB X e p) (hr : vp X es ps) (hs : autoParam (starEach (e :: es) X.env = (false, eval e X.env) :: starEach es X.env) au._auto_1) : vp X (e :: es) (p :: ps) := fX (cE ha hr hs) fun σ H Q hq0 => by
 obtain ⟨F, R, σD, ds, r, ec, k⟩ := hq0;simp only [ld] at ec;rcases h1 : p σD with _ | d
 ·rw [h1] at ec; cases ec
 ·rw [h1] at ec; simp only [bind_some] at ec
  rcases h2 : ld ps σD with _ | ds2
  ·rw [h2] at ec; cases ec
  ·rw [h2] at ec; cases ec
   refine ⟨F, R, σD, d, r, h1, fun F1 H1 v g1 b1 => ?_⟩;exact ⟨F1, R, σD, ds2, r.grow g1, h2, fun F2 H2 vs g2 b2 => k F2 H2 (v :: vs) (g1.trans g2) ⟨b1.grow g2, b2⟩⟩
theorem sA {f : Value} (hc : fN X f g) {σ : St} {H : Hp} {Q : VK} (h : rB X.K (bZ g ps) σ H Q) : zM (fun vs H Q => ∃ F ds d w, BorL X.K F H ds vs /\ g ds = some d /\ d.sc = some w /\ Q w H) (EO X.K ps) σ H Q := by
 obtain ⟨F, R, σD, d, r, ec, k⟩ := h;unfold bZ at ec;rcases h1 : ld ps σD with _ | ds
 ·rw [h1] at ec; cases ec
 ·rw [h1] at ec; simp only [bind_some] at ec
  obtain ⟨w, hw⟩ := hc.sc _ _ ec;exact ⟨F, R, σD, ds, r, h1, fun F1 H1 vs g1 b1 => ⟨F1, ds, d, w, b1, ec, hw, k F1 H1 w g1 ⟨[], Ow.of_sc hw⟩⟩⟩
theorem tQ {f : Value} (hc : fN X f g) {σ : St} {H : Hp} {Q : VK} (h : rE X.K (iz g ca) σ H Q) : zM (fun vs H Q => ∃ F ds d w, BorL X.K F H ds vs /\ g ds = some d /\ d.sc = some w /\ Q w H) (rA X.K ca) σ H Q := by
 obtain ⟨F, R, σD, d, σD', r, ec, k⟩ := h;unfold iz at ec;rcases h1 : ca σD with _ | ⟨ds, σ1⟩
 ·rw [h1] at ec; cases ec
 ·rw [h1] at ec; simp only [bind_some] at ec
  obtain ⟨z, e1, e2⟩ := bH ec;cases e2;obtain ⟨w, hw⟩ := hc.sc _ _ e1;exact ⟨F, R, σD, ds, _, r, h1, fun F1 H1 vs x1 hl r1 => ⟨F1, ds, _, w, BorL.of hl r1, e1, hw, k F1 H1 w x1 ((r1.popN).scal hw)⟩⟩
theorem dH (hc : fN X (.builtin id) g) (hg : Gl X x) (hm : X.mg x = none) (hv : bootBuiltins x = some (.builtin id)) (ha : vp X (e :: es) ps) (hn : autoParam (x ≠ "__name__") cx._auto_1) (hdb : autoParam ((x == ("__debug__" : Str)) = false) cx._auto_1)
  (he : autoParam (starEach (e :: es) X.env = (false, eval e X.env) :: starEach es X.env) au._auto_1) (hpl : autoParam ((backTo pos (starEach es X.env)).any (·.1) = false) au._auto_1) : QB X (.Call (.Name x p1) (e :: es) [] pos) (bZ g ps) :=
 aO (sx hc.run hg hm hv ha hn hdb he hpl) fun _ _ _ h => sA hc h
theorem DZ (hc : fN X (.builtin id) g) (hg : Gl X x) (hm : X.mg x = none) (hv : bootBuiltins x = some (.builtin id)) (ha : QA X (e :: es) ca) (hn : autoParam (x ≠ "__name__") cx._auto_1) (hdb : autoParam ((x == ("__debug__" : Str)) = false) cx._auto_1)
  (he : autoParam (starEach (e :: es) X.env = (false, eval e X.env) :: starEach es X.env) au._auto_1) (hpl : autoParam ((backTo pos (starEach es X.env)).any (·.1) = false) au._auto_1) : QE X (.Call (.Name x p1) (e :: es) [] pos) (iz g ca) :=
 aO (sx hc.run hg hm hv ha hn hdb he hpl) fun _ _ _ h => tQ hc h
theorem mE (hc : fN X (.type T) g) (hg : Gl X x) (hm : X.mg x = none) (hv : bootBuiltins x = some (.type T)) (ha : vp X (e :: es) ps) (hn : autoParam (x ≠ "__name__") cx._auto_1) (hdb : autoParam ((x == ("__debug__" : Str)) = false) cx._auto_1)
  (he : autoParam (starEach (e :: es) X.env = (false, eval e X.env) :: starEach es X.env) au._auto_1) (hpl : autoParam ((backTo pos (starEach es X.env)).any (·.1) = false) au._auto_1) : QB X (.Call (.Name x p1) (e :: es) [] pos) (bZ g ps) :=
 aO (lA hc.run hg hm hv ha hn hdb he hpl) fun _ _ _ h => sA hc h
theorem DX (hc : fN X (.type T) g) (hg : Gl X x) (hm : X.mg x = none) (hv : bootBuiltins x = some (.type T)) (ha : QA X (e :: es) ca) (hn : autoParam (x ≠ "__name__") cx._auto_1) (hdb : autoParam ((x == ("__debug__" : Str)) = false) cx._auto_1)
  (he : autoParam (starEach (e :: es) X.env = (false, eval e X.env) :: starEach es X.env) au._auto_1) (hpl : autoParam ((backTo pos (starEach es X.env)).any (·.1) = false) au._auto_1) : QE X (.Call (.Name x p1) (e :: es) [] pos) (iz g ca) :=
 aO (lA hc.run hg hm hv ha hn hdb he hpl) fun _ _ _ h => tQ hc h
theorem ir {T : String} (hg : Gl X x) (hm : X.mg x = none) (hv : bootBuiltins x = some (.type T)) (hn : autoParam (x ≠ "__name__") cx._auto_1) (hd : autoParam ((x == ("__debug__" : Str)) = false) cx._auto_1) : QB X (.Name x pos) (pC (.ty T)) :=
 aO (A8 (v := .ty T) hg hm hv rfl hn hd) fun σ H Q hq0 => by obtain ⟨F, R, σD, d, r, ec, k⟩ := hq0; cases ec; exact k F H _ Grow.refl ⟨[], Ow.of_sc rfl⟩
end
section
variable {X : Cx}
theorem iB {f : Value} {r r' : List V -> Hp -> VK -> Prop} (h : CallR X f r) (i : ∀ xs H Q, r' xs H Q -> r xs H Q) : CallR X f r' := fun aa s σ H xs us Q I rv h' => h aa s σ H xs us Q I rv (i xs H Q h')
theorem BorL.one {K : PySem.W.Frag} {F : Addr -> Prop} {H : Hp} {d : D} : ∀ {vs : List V}, BorL K F H [d] vs -> ∃ v, vs = [v] /\ Bor K F H d v
 | [v], h => ⟨v, rfl, h.1⟩
theorem BorL.two {K : PySem.W.Frag} {F : Addr -> Prop} {H : Hp} {d e : D} : ∀ {vs : List V}, BorL K F H [d, e] vs -> ∃ v w, vs = [v, w] /\ Bor K F H d v /\ Bor K F H e w := by
 intro vs h;cases vs with
 | nil => exact h.elim
 | cons v vs => cases vs with
  | nil => exact h.2.elim
  | cons w vs => cases vs with
   | nil => exact ⟨v, w, rfl, h.1, h.2.1⟩
   | cons _ _ => exact h.2.2.elim
noncomputable def fo : List D -> Option D
 | [.lst _ xs] => some (.int xs.length)
 | [.tup xs] => some (.int xs.length)
 | [.str z] => if z.length <= sizeLine then some (.int z.length) else none
 | _ => none
theorem ik : fN X (.builtin "len") fo := by
 refine ⟨iB (call_len_seq.or tV) fun vs H Q pz => ?_, fun ds d h => ?_⟩
 ·obtain ⟨F, ds, d, w, b, eg, hw, q⟩ := pz
  unfold fo at eg;split at eg
  ·cases eg; cases hw
   obtain ⟨v, rfl, bv⟩ := b.one;obtain ⟨a, us, rfl, sq, L, ol⟩ := bv.lst;exact .inl ⟨a, us, rfl, .inl sq, by rw [ol.length]; exact q⟩
  ·cases eg; cases hw
   obtain ⟨v, rfl, bv⟩ := b.one;obtain ⟨a, us, rfl, sq, L, ol⟩ := bv.tup;exact .inl ⟨a, us, rfl, .inr sq, by rw [ol.length]; exact q⟩
  ·split at eg
   ·rename_i hz
    cases eg; cases hw;obtain ⟨v, rfl, bv⟩ := b.one;exact .inr ⟨_, by rw [bv.str], hz, q⟩
   ·cases eg
  ·cases eg
 ·unfold fo at h
  split at h
  ·cases h; exact ⟨_, rfl⟩
  ·cases h; exact ⟨_, rfl⟩
  ·split at h
   ·cases h; exact ⟨_, rfl⟩
   ·cases h
  ·cases h
noncomputable def lN : List D -> Option D
 | [.int i] => some (.int i)
 | [.bl b] => some (.int (if b then 1 else 0))
 | _ => none
theorem q9 : fN X (.type "int") lN := by
 refine ⟨iB yb fun vs H Q pz => ?_, fun ds d h => ?_⟩
 ·obtain ⟨F, ds, d, w, b, eg, hw, q⟩ := pz
  unfold lN at eg;split at eg
  ·cases eg; cases hw
   obtain ⟨v, rfl, bv⟩ := b.one;exact .inl ⟨_, by rw [bv.int], q⟩
  ·cases eg; cases hw
   obtain ⟨v, rfl, bv⟩ := b.one;exact .inr ⟨_, by rw [bv.bl], q⟩
  ·cases eg
 ·unfold lN at h
  split at h <;> first | (cases h; exact ⟨_, rfl⟩) | cases h
noncomputable def mh : List D -> Option D
 | [.int i] => some (.int (if i < 0 then -i else i))
 | _ => none
theorem rg : fN X (.builtin "abs") mh := by
 refine ⟨iB zv fun vs H Q pz => ?_, fun ds d h => ?_⟩
 ·obtain ⟨F, ds, d, w, b, eg, hw, q⟩ := pz
  unfold mh at eg;split at eg
  ·cases eg; cases hw
   obtain ⟨v, rfl, bv⟩ := b.one;exact ⟨_, by rw [bv.int], q⟩
  ·cases eg
 ·unfold mh at h
  split at h <;> first | (cases h; exact ⟨_, rfl⟩) | cases h
noncomputable def qV : D -> Option Value
 | .non => some (.type "NoneType")
 | .bl _ => some (.type "bool")
 | .int _ => some (.type "int")
 | .str _ => some (.type "str")
 | .lst _ _ => some (.type "list")
 | .tup _ => some (.type "tuple")
 | _ => none
noncomputable def isiA : List String := ["NoneType", "bool", "int", "str", "list", "tuple"]
noncomputable def isiB : List String := ["int", "bool", "str", "list", "tuple"]
noncomputable def jt (a b : String) : Option Bool := if (isiA.contains a && isiB.contains b) = true then some (a == b || (a == "bool" && b == "int")) else none
noncomputable def qU : D -> Option String
 | .non => some "NoneType"
 | .bl _ => some "bool"
 | .int _ => some "int"
 | .str _ => some "str"
 | .lst _ _ => some "list"
 | .tup _ => some "tuple"
 | _ => none
theorem Bl {x : D} {a : String} (h : qU x = some a) : qV x = some (.type a) := by
 cases x <;> first | (cases h; rfl) | cases h
noncomputable def jY (ds : List D) : Option D := match ds with
 | [x, .ty t] => (qU x).bind fun a => (jt a t).map .bl
 | _ => none
theorem zh {K : PySem.W.Frag} {a b : String} {k : Bool} (h : jt a b = some k) : kitOne K (.type a) (.type b) = some k := by
 unfold jt at h;split at h
 ·rename_i hc
  rw [Bool.and_eq_true, List.contains_iff_mem, List.contains_iff_mem] at hc;obtain ⟨ha, hb⟩ := hc;simp only [isiA, isiB, List.mem_cons, List.not_mem_nil, or_false] at ha hb;rcases ha with rfl | rfl | rfl | rfl | rfl | rfl <;> rcases hb with rfl | rfl | rfl | rfl | rfl <;> (cases h; rfl)
 ·cases h
theorem xC {o : Option Bool} {d : D} (h : o.map D.bl = some d) : ∃ k, o = some k /\ d = .bl k := by
 cases o with
 | none => cases h
 | some k => cases h; exact ⟨k, rfl, rfl⟩
theorem Bw {aa : List (Addr × Obj)} {σ : St} {H : Hp} {s : Shared} {F : Addr -> Prop} {x : D} {v : V} {u : Value} {t c : Value} {b : Bool} {Q : Value -> Shared -> Prop} {E : Value -> Shared -> Prop} (I : L2.Inv X aa σ H s) (bo : Bor X.K F H x v) (rv : RelV v u) (hk : qV x = some t)
  (e : kitOne X.K t c = some b) (h : ∀ tk, Q (.bool b) { s with toks := tk }) : wpAny (model X.prog X.w) X.A (call (.builtin "isinstance") [u, c]) Q E s := by
 unfold qV at hk;split at hk
 ·cases hk; rw [bo.sc (w := .non) rfl] at rv; exact jJ I rv (.non) e h
 ·cases hk; rw [bo.bl] at rv; exact jJ I rv (.bl _) e h
 ·cases hk; rw [bo.int] at rv; exact jJ I rv (.int _) e h
 ·cases hk; rw [bo.str] at rv; exact jJ I rv (.str _) e h
 ·cases hk
  obtain ⟨a, vs, rfl, sq, L, ol⟩ := bo.lst;cases rv;obtain ⟨its, o, n, _, e1, e2, e3⟩ := sK I sq;exact kia_one kitx_list I.kIn ⟨_, e1, e2⟩ e (fun z => nomatch z) h
 ·cases hk
  obtain ⟨a, vs, rfl, sq, L, ol⟩ := bo.tup;cases rv;obtain ⟨its, o, n, _, e1, e2, e3⟩ := uT I sq;exact kia_one kitx_tuple I.kIn ⟨_, e1, e2⟩ e (fun z => nomatch z) h
 ·cases hk
theorem oQ : fN X (.builtin "isinstance") jY := by
 refine ⟨fun aa s σ H vs us Q I rv pz => ?_, fun ds d h => ?_⟩
 ·obtain ⟨F, ds, d, w, b, eg, hw, q⟩ := pz
  have key : ∀ {x : D} {a t : String}, ds = [x, .ty t] -> qV x = some (.type a) -> (jt a t).map D.bl = some d -> wpAny (model X.prog X.w) X.A (call (.builtin "isinstance") us) (EP X aa σ Q) X.xe s := fun {x a t} e1 e2 e3 => by
   subst e1;obtain ⟨k, e4, rfl⟩ := xC e3;cases hw;obtain ⟨v, u, rfl, bv, bu⟩ := b.two;obtain ⟨u1, u2, rfl, r1, r2⟩ := DB rv;have hu : u = .ty t := bu.sc rfl;subst hu;cases r2;exact Bw I bv r1 e2 (zh e4) fun tk => ⟨.bl k, H, I.tok tk, rfl, q⟩
  unfold jY at eg;split at eg
  ·rename_i x t
   rcases hk : qU x with _ | a
   ·rw [hk] at eg; cases eg
   ·rw [hk] at eg
    exact key rfl (Bl hk) eg
  ·cases eg
 ·unfold jY at h
  split at h
  ·rename_i x t
   rcases hk : qU x with _ | a
   ·rw [hk] at h; cases h
   ·rw [hk] at h
    obtain ⟨k, _, rfl⟩ := xC h;exact ⟨_, rfl⟩
  ·cases h
end
noncomputable def cF : D -> List Int -> Option D
 | t, [] => some t
 | .lst _ xs, j :: js => (atI xs j).bind fun x => cF x js
 | .tup xs, j :: js => (atI xs j).bind fun x => cF x js
 | _, _ :: _ => none
noncomputable def dO : D -> List Int -> D -> D
 | _, [], d => d
 | .lst o xs, j :: js, d => match ixN xs.length j with | some k => (match xs[k]? with | some x => .lst o (xs.set k (dO x js d)) | none => .lst o xs) | none => .lst o xs
 | .tup xs, j :: js, d => match ixN xs.length j with | some k => (match xs[k]? with | some x => .tup (xs.set k (dO x js d)) | none => .tup xs) | none => .tup xs
 | t, _ :: _, _ => t
noncomputable def Lc (H : Hp) : V -> List Int -> V -> Prop
 | v, [], w => w = v
 | v, j :: js, w => ∃ a vs u, v = .ref a /\ (H a = some (.lst vs) \/ H a = some (.tup vs)) /\ atI vs j = some u /\ Lc H u js w
theorem ku {α : Type} {xs : List α} {j : Int} {x : α} (h : atI xs j = some x) : ∃ k, ixN xs.length j = some k /\ xs[k]? = some x := by
 unfold atI at h;rcases hk : ixN xs.length j with _ | k
 ·rw [hk] at h; cases h
 ·rw [hk] at h; exact ⟨k, rfl, h⟩
section
variable {K : PySem.W.Frag} {F F' : Addr -> Prop} {H H' : Hp} {σD : ar} {σ : St} {R S S' : Ro}
theorem Lc.grow {H H' : Hp} (k : ∀ a o, H a = some o -> H' a = some o) : ∀ {js : List Int} {v w : V}, Lc H v js w -> Lc H' v js w
 | [], _, _, h => h
 | j :: js, _, _, ⟨a, vs, u, e, h, hu, r⟩ => ⟨a, vs, u, e, by rcases h with h | h; exact .inl (k _ _ h); exact .inr (k _ _ h), hu, Lc.grow k r⟩
theorem Lc.snoc : ∀ {js : List Int} {j : Int} {v w : V}, Lc H v (js ++ [j]) w -> ∃ u, Lc H v js u /\ Lc H u [j] w := by
 intro js
 induction js with
 | nil => intro j v w h; exact ⟨v, rfl, h⟩
 | cons i js ih =>
  intro j v w h;obtain ⟨a, vs, u, e, h, hu, r⟩ := h;obtain ⟨z, h1, h2⟩ := ih r;exact ⟨z, ⟨a, vs, u, e, h, hu, h1⟩, h2⟩
theorem Ow.focus : ∀ {js : List Int} {t : D} {v : V} {L : List Addr} {xs : List D}, Ow K F H t v L -> cF t js = some (.lst true xs) ->
  ∃ l La Lx Lb, Lc H v js (.ref l) /\ L = La ++ (l :: Lx) ++ Lb /\ (∃ vs, H l = some (.lst vs) /\ OwL K F H xs vs Lx) /\
   ∀ (F' : Addr -> Prop) (H' : Hp) (d' : D) (Lx' : List Addr), Ext F H F' H' -> (∀ a ∈ La ++ Lb, H' a = H a) -> Ow K F' H' d' (.ref l) Lx' -> Ow K F' H' (dO t js d') v (La ++ Lx' ++ Lb) := by
 intro js
 induction js with
 | nil =>
  intro t v L xs o e;simp only [cF] at e;cases e;simp only [Ow] at o;obtain ⟨l, vs, L', rfl, h, ol, rfl⟩ := o;refine ⟨l, [], L', [], rfl, (List.append_nil _).symm, ⟨vs, h, ol⟩, fun F' H' d' Lx' x k o' => ?_⟩;simp only [dO, List.nil_append, List.append_nil];exact o'
 | cons j js ih =>
  intro t v L xs o e;cases t with
  | lst b ys =>
   simp only [cF] at e;rcases h1 : atI ys j with _ | y
   ·rw [h1] at e; cases e
   rw [h1] at e; simp only [bind_some] at e;obtain ⟨k, hk, hy⟩ := ku h1;cases b with
   | true =>
    simp only [Ow] at o;obtain ⟨a, vs, L', rfl, ha, ol, rfl⟩ := o;obtain ⟨w, La, Ly, Lb, ew, rfl, oy, back⟩ := ol.kid hy;obtain ⟨l, Ma, Mx, Mb, lc, rfl, hl, back2⟩ := ih oy e;refine ⟨l, a :: (La ++ Ma), Mx, Mb ++ Lb, ⟨a, vs, w, rfl, .inl ha, ?_, lc⟩, by simp, hl, fun F' H' d' Lx' x kk o' => ?_⟩
    ·unfold atI; rw [ol.length, hk]; exact ew
    ·have o2 := back2 F' H' d' Lx' x (fun b hb => kk b (by simp at hb ⊢; rcases hb with hb | hb <;> simp [hb])) o'
     have o3 := back F' H' _ _ x (fun b hb => kk b (by simp at hb ⊢; rcases hb with hb | hb <;> simp [hb])) o2;simp only [dO, hk, hy, Ow];exact ⟨a, vs, _, rfl, (kk a (by simp)).trans ha, o3, by simp⟩
   | false =>
    exfalso;simp only [Ow] at o;obtain ⟨a, vs, rfl, _, ol, rfl⟩ := o;obtain ⟨w, La, Ly, Lb, ew, eL, oy, back⟩ := ol.kid hy;obtain ⟨l, Ma, Mx, Mb, lc, rfl, hl, back2⟩ := ih oy e;simp at eL
  | tup ys =>
   simp only [cF] at e;rcases h1 : atI ys j with _ | y
   ·rw [h1] at e; cases e
   rw [h1] at e; simp only [bind_some] at e;obtain ⟨k, hk, hy⟩ := ku h1;simp only [Ow] at o;obtain ⟨a, vs, rfl, ft, ol⟩ := o;obtain ⟨w, La, Ly, Lb, ew, rfl, oy, back⟩ := ol.kid hy;obtain ⟨l, Ma, Mx, Mb, lc, rfl, hl, back2⟩ := ih oy e;have ft' : F a /\ H a = some (.tup vs) := by
    rcases ft with h | ⟨_, h⟩
    ·exact h
    ·simp at h
   refine ⟨l, La ++ Ma, Mx, Mb ++ Lb, ⟨a, vs, w, rfl, .inr ft'.2, ?_, lc⟩, by simp, hl, fun F' H' d' Lx' x kk o' => ?_⟩
   ·unfold atI; rw [ol.length, hk]; exact ew
   ·have o2 := back2 F' H' d' Lx' x (fun b hb => kk b (by simp at hb ⊢; rcases hb with hb | hb <;> simp [hb])) o'
    have o3 := back F' H' _ _ x (fun b hb => kk b (by simp at hb ⊢; rcases hb with hb | hb <;> simp [hb])) o2;simp only [dO, hk, hy, Ow];exact ⟨a, vs, rfl, .inl ⟨(x a ft'.1).1, (x a ft'.1).2.trans ft'.2⟩, by simpa using o3⟩
  | _ => simp only [cF] at e; cases e
theorem Rel.listAt {t : D} {v : V} {js : List Int} {xs : List D} (r : Rel K F H σD σ ((t, v) :: (S ++ R))) (e : cF t js = some (.lst true xs)) :
  ∃ l vs, Lc H v js (.ref l) /\ H l = some (.lst vs) /\ xs.length = vs.length /\ ∀ (ys : List D) (ws : List V) (S' : Ro), (xs.zip vs ++ S).Perm (ys.zip ws ++ S') -> ys.length = ws.length ->
   Rel K F (ay H l (.lst ws)) σD σ ((dO t js (.lst true ys), v) :: (S' ++ R)) /\ Ext F H F (ay H l (.lst ws)) := by
 obtain ⟨L, ⟨L1, L23, o1, h23, rfl⟩, nd, nf⟩ := r.front.own;obtain ⟨l, La, Lx, Lb, lc, rfl, ⟨vs, hl, ol⟩, back⟩ := o1.focus e;refine ⟨l, vs, lc, hl, ol.toP.1, fun ys ws S' p hlen => ?_⟩;have h23' : OwP K F H (S ++ (R ++ sl σD σ)) L23 := by rw [<- List.append_assoc]; exact h23
 obtain ⟨L2, L3, rfl, h2, h3⟩ := h23'.split;obtain ⟨M, pm, hM⟩ := (ol.toP.2.append h2).perm p;obtain ⟨M1, M2, rfl, hM1, hM2⟩ := hM.split;have all : ((La ++ (l :: Lx) ++ Lb) ++ (L2 ++ L3)).Perm (l :: (La ++ Lb ++ (Lx ++ L2) ++ L3)) := by
  have h1 : ((La ++ (l :: Lx) ++ Lb) ++ (L2 ++ L3)) = La ++ l :: (Lx ++ (Lb ++ (L2 ++ L3))) := by simp
  rw [h1];refine List.perm_middle.trans (.cons _ ?_);have h2 : La ++ Lb ++ (Lx ++ L2) ++ L3 = La ++ (Lb ++ (Lx ++ (L2 ++ L3))) := by simp
  rw [h2];exact (List.perm_append_comm_assoc _ _ _).append_left La
 have nd1 := all.nodup_iff.mp nd;have nl : ∀ a ∈ La ++ Lb ++ (Lx ++ L2) ++ L3, a ≠ l := fun a ha z => (List.nodup_cons.mp nd1).1 (z ▸ ha)
 have nF : ∀ a, F a -> a ≠ l := fun a fa z => nf l (all.mem_iff.mpr (by simp)) (z ▸ fa)
 have x : Ext F H F (ay H l (.lst ws)) := fun a fa => ⟨fa, aw (nF a fa)⟩
 have kM : ∀ a ∈ M1 ++ M2, ay H l (.lst ws) a = H a := fun a ha => aw (nl a (by
  have := pm.mem_iff.mpr ha
  simp at this ⊢;rcases this with h | h <;> simp [h]))
 have o2 : Ow K F (ay H l (.lst ws)) (.lst true ys) (.ref l) (l :: M1) := by
  simp only [Ow];exact ⟨l, ws, M1, rfl, bG, OwL.ofP hlen (hM1.mono x fun a ha => kM a (by simp [ha])), rfl⟩
 have o3 := back F (ay H l (.lst ws)) (.lst true ys) (l :: M1) x (fun a ha => aw (nl a (by simp at ha ⊢; rcases ha with h | h <;> simp [h]))) o2;refine ⟨Rel.of r.mt ⟨⟨(La ++ (l :: M1) ++ Lb) ++ (M2 ++ L3), ⟨_, M2 ++ L3, o3, ?_, rfl⟩, ?_, ?_⟩, fun a fa => ?_⟩, x⟩
 ·show OwP K F (ay H l (.lst ws)) ((S' ++ R) ++ sl σD σ) (M2 ++ L3)
  rw [List.append_assoc];exact (hM2.mono x fun a ha => kM a (by simp [ha])).append (h3.mono x fun a ha => aw (nl a (by simp [ha])))
 ·have p2 : ((La ++ (l :: M1) ++ Lb) ++ (M2 ++ L3)).Perm ((La ++ (l :: Lx) ++ Lb) ++ (L2 ++ L3)) := by
   refine List.Perm.trans ?_ all.symm;have h1 : ((La ++ (l :: M1) ++ Lb) ++ (M2 ++ L3)) = La ++ l :: (M1 ++ (Lb ++ (M2 ++ L3))) := by simp
   rw [h1];refine List.perm_middle.trans (.cons _ ?_);have h2 : La ++ Lb ++ (Lx ++ L2) ++ L3 = La ++ (Lb ++ ((Lx ++ L2) ++ L3)) := by simp
   rw [h2];refine List.Perm.append_left La ?_;refine (List.perm_append_comm_assoc _ _ _).trans (List.Perm.append_left Lb ?_);rw [<- List.append_assoc];exact pm.symm.append_right L3
  exact p2.nodup_iff.mpr nd
 ·intro a ha fa
  refine nf a ?_ fa;simp only [List.mem_append, List.mem_cons] at ha ⊢;rcases ha with ((h | h | h) | h) | h | h
  ·simp [h]
  ·simp [h]
  ·have := pm.mem_iff.mpr (List.mem_append_left M2 h)
   rcases List.mem_append.mp this with z | z <;> simp [z]
  ·simp [h]
  ·have := pm.mem_iff.mpr (List.mem_append_right M1 h)
   rcases List.mem_append.mp this with z | z <;> simp [z]
  ·simp [h]
 ·rw [aw (nF a fa)]; exact r.g.dom a fa
end
noncomputable def gz : List DP -> ar -> Option (List Int)
 | [], _ => some []
 | p :: ps, σ => (p σ).bind fun d => match d with | .int i => (gz ps σ).map fun r => i :: r | _ => none
theorem tJ : ∀ {js : List DP} {p : DP} {σ : ar} {path : List Int}, gz (js ++ [p]) σ = some path -> ∃ pre i, path = pre ++ [i] /\ gz js σ = some pre /\ p σ = some (.int i)
 | [], p, σ, path, h => by
  simp only [List.nil_append, gz] at h;rcases hp : p σ with _ | d
  ·rw [hp] at h; cases h
  ·rw [hp] at h
   cases d <;> first | (cases h; exact ⟨[], _, rfl, rfl, rfl⟩) | cases h
 | q :: js, p, σ, path, h => by
  simp only [List.cons_append, gz] at h;rcases hq : q σ with _ | d
  ·rw [hq] at h; cases h
  ·rw [hq] at h
   simp only [bind_some] at h;cases d with
   | int i =>
    simp only at h;rcases hr : gz (js ++ [p]) σ with _ | r
    ·rw [hr] at h; cases h
    ·rw [hr] at h; cases h
     obtain ⟨pre, k, rfl, h2, h3⟩ := tJ hr;refine ⟨i :: pre, k, rfl, ?_, h3⟩;simp only [gz, hq, bind_some, h2, map_some]
   | _ => cases h
theorem Lc.uniq {H : Hp} : ∀ {js : List Int} {v w w' : V}, Lc H v js w -> Lc H v js w' -> w = w' := by
 intro js
 induction js with
 | nil => intro v w w' h h'; exact h.trans h'.symm
 | cons j js ih =>
  intro v w w' q q';obtain ⟨a, vs, u, e, h, hu, r⟩ := q;obtain ⟨a', vs', u', e', h', hu', r'⟩ := q';subst e;cases e';have ev : vs = vs' := by
   rcases h with h | h <;> rcases h' with h' | h' <;> rw [h] at h' <;> cases h' <;> rfl
  subst ev;rw [hu] at hu';cases hu';exact ih r r'
noncomputable def rP (K : PySem.W.Frag) (i : Nat) (js : List DP) : TE := fun σ H Q => ∃ F R σD v0 path w, Rel K F H σD σ R /\ σ[i]? = some (some v0) /\ gz js σD = some path /\ Lc H v0 path w /\ ∀ F' H', Grow F H F' H' -> Q w H'
noncomputable def QP (X : Cx) (e : Expr) (i : Nat) (js : List DP) : Prop := PE X e (rP X.K i js)
section
variable {X : Cx} {e o a b : Expr} {es : List Expr} {p q : DP} {c c' : DE} {pos apos cpos : Pos} {i : Nat} {js : List DP}
theorem ny (i : Nat) {x : Str} {pos : Pos} (hN : autoParam (X.N[i]? = some x) au._auto_1) (hv : autoParam (m7 X.env.scope x) qy._auto_1) (hd : autoParam ((x == ("__debug__" : Str)) = false) cx._auto_1)
  (hcd : autoParam ((x == ("__classdict__" : Str)) = false) cx._auto_1) : QP X (.Name x pos) i [] := aO (iu hN hv hd hcd) fun σ H Q hq0 => by
 obtain ⟨F, R, σD, v0, path, w, r, hv0, ep, lc, k⟩ := hq0;cases ep;cases lc;exact ⟨_, hv0, k F H Grow.refl⟩
theorem vP (ho : QP X a i js) (hb : QB X b q) (hs : autoParam (i4 b) jP._auto_1) : QP X (.Subscript a b pos) i (js ++ [q]) := aO (vX tx ho hb hs) fun σ H Q hq0 => by
 obtain ⟨F, R, σD, v0, path, w, r, hv0, ep, lc, k⟩ := hq0;obtain ⟨pre, j, rfl, e1, e2⟩ := tJ ep;obtain ⟨u, l1, l2⟩ := lc.snoc;refine ⟨F, R, σD, v0, pre, u, r, hv0, e1, l1, fun F1 H1 g1 => ?_⟩;refine ⟨F1, R, σD, _, r.grow g1, e2, fun F2 H2 y g2 b2 => ?_⟩;obtain ⟨ad, vs, z, rfl, hh, hz, rfl⟩ := l2.grow (g1.trans g2).k;rcases hh with hh | hh
 ·exact .inl ⟨ad, vs, j, _, rfl, b2.int, .inl (.inl hh), hz, k F2 H2 (g1.trans g2)⟩
 ·exact .inr (.inl ⟨ad, vs, j, _, rfl, b2.int, .inl (.inl hh), hz, k F2 H2 (g1.trans g2)⟩)
noncomputable def tR (i : Nat) (js : List DP) (p : DP) : DE := fun σ => (bf σ i).bind fun t => (gz js σ).bind fun path => (cF t path).bind fun n => match n with
 | .lst true xs => (p σ).bind fun y => match y.sc with
  | some _ => if xs.length < sizeLine then some (.non, σ.set i (some (dO t path (.lst true (xs ++ [y]))))) else none
  | none => none
 | _ => none
theorem AT (ho : QP X o i js) (he : QB X e p) (hbase : autoParam (attributeBase o "append" X.env (eval o X.env) = eval o X.env) au._auto_1) (hfew : autoParam (((backTo cpos (starEach [e] X.env)).all (fun x => !x.1) && (backToKw cpos (keywordEach [] X.env)).all (fun x => x.1.isSome)
   && decide (([e] : List Expr).length + ([] : List Keyword).length + (if ([] : List Keyword).isEmpty then 0 else 1) < 30)) = true) au._auto_1) (hline : autoParam ((apos.endLine == cpos.line) = true) au._auto_1)
  (hst : autoParam (starEach [e] X.env = (false, eval e X.env) :: starEach [] X.env) au._auto_1) : QE X (.Call (.Attribute o "append" apos) [e] [] cpos) (tR i js p) :=
 aO (mF PySem.F.plainAttrs_list PySem.F.slot_list_append PySem.F.type_list_append lD ho (cE he dQ hst) hbase hfew hline hst rfl) fun σ H Q hq0 => by
  obtain ⟨F, R, σD, d, σD', r, ec, k⟩ := hq0;unfold tR at ec;rcases h1 : bf σD i with _ | t
  ·rw [h1] at ec; cases ec
  ·rw [h1] at ec; simp only [bind_some] at ec
   rcases h2 : gz js σD with _ | path
   ·rw [h2] at ec; cases ec
   ·rw [h2] at ec; simp only [bind_some] at ec
    rcases h3 : cF t path with _ | n
    ·rw [h3] at ec; cases ec
    ·rw [h3] at ec; simp only [bind_some] at ec
     split at ec
     ·rename_i xs
      rcases h4 : p σD with _ | y
      ·rw [h4] at ec; cases ec
      ·rw [h4] at ec; simp only [bind_some] at ec
       rcases h5 : y.sc with _ | yw
       ·rw [h5] at ec; cases ec
       ·rw [h5] at ec
        simp only at ec;split at ec
        ·rename_i hz
         cases ec;obtain ⟨v0, hv0, r0⟩ := r.take (bm h1);obtain ⟨l0, vs0, lc0, hl0, _⟩ := Rel.listAt (S := []) r0 h3;refine ⟨F, R, σD, v0, path, .ref l0, r, hv0, h2, lc0, fun F1 H1 g1 => ⟨.inl ⟨rfl, vs0, .inl (.inl (g1.k _ _ hl0))⟩, ?_⟩⟩;refine ⟨F1, R, σD, y, r.grow g1, h4, fun F2 H2 u g2 b2 => ?_⟩;have hu : u = yw := b2.sc h5;subst hu;have g3 := g1.trans g2;obtain ⟨v1, hv1, r1⟩ := (r.grow g3).take (bm h1);rw [hv0] at hv1; cases hv1;have r2 : Rel X.K F2 H2 (σD.set i none) σ ((t, v0) :: ([(y, u)] ++ R)) := (r1.scal (d := y) h5).perm (.swap _ _ _);obtain ⟨l, vs, lc, hl, hlen, upd'⟩ := r2.listAt h3;have el : l0 = l := by
          have := (lc0.grow g3.k).uniq lc
          injection this
         subst el;obtain ⟨r3, x3⟩ := upd' (xs ++ [y]) (vs ++ [u]) [] (by rw [List.zip_append hlen]; simp) (by simp [hlen]);refine ⟨l0, vs, u, rfl, rfl, hl, by omega, ?_⟩;have r4 := (Rel.put (R := R) r3 hv0);rw [List.set_set] at r4;exact k F2 _ .non (g3.x.trans x3) (r4.scal rfl)
        ·cases ec
     ·cases ec
end
section
variable {X : Cx} {e o a b : Expr} {es : List Expr} {p q : DP} {c c' : DE} {pos apos cpos : Pos} {i : Nat} {js : List DP}
noncomputable def jM (i : Nat) (c : DE) : DE := fun σ => match bf σ i with
 | some (.lst _ _) => (c σ).bind fun p => match bf p.2 i with
  | some (.lst true xs) => if xs.length < sizeLine then some (.non, p.2.set i (some (.lst true (xs ++ [p.1])))) else none
  | _ => none
 | _ => none
theorem mD (i : Nat) {x : Str} {npos : Pos} (he : QE X e c) (hN : autoParam (X.N[i]? = some x) au._auto_1) (hv : autoParam (m7 X.env.scope x) qy._auto_1) (hd : autoParam ((x == ("__debug__" : Str)) = false) cx._auto_1)
  (hcd : autoParam ((x == ("__classdict__" : Str)) = false) cx._auto_1) (hbase : autoParam (attributeBase (.Name x npos) "append" X.env (eval (.Name x npos) X.env) = eval (.Name x npos) X.env) au._auto_1) (hfew : autoParam (((backTo cpos (starEach [e] X.env)).all (fun x => !x.1) && (backToKw cpos (keywordEach [] X.env)).all (fun x => x.1.isSome)
   && decide (([e] : List Expr).length + ([] : List Keyword).length + (if ([] : List Keyword).isEmpty then 0 else 1) < 30)) = true) au._auto_1) (hline : autoParam ((apos.endLine == cpos.line) = true) au._auto_1)
  (hst : autoParam (starEach [e] X.env = (false, eval e X.env) :: starEach [] X.env) au._auto_1) : QE X (.Call (.Attribute (.Name x npos) "append" apos) [e] [] cpos) (jM i c) :=
 aO (mF PySem.F.plainAttrs_list PySem.F.slot_list_append PySem.F.type_list_append lD (iu hN hv hd hcd) (cE he dQ hst) hbase hfew hline hst rfl) fun σ H Q hq0 => by
  obtain ⟨F, R, σD, d, σD', r, ec, k⟩ := hq0;unfold jM at ec;split at ec
  ·rename_i own ys h0
   obtain ⟨v0, hv0, b0⟩ := r.get (bm h0);obtain ⟨a0, vs0, rfl, sq0, _⟩ := b0.lst;rcases h1 : c σD with _ | ⟨y, σ1⟩
   ·rw [h1] at ec; cases ec
   ·rw [h1] at ec; simp only [bind_some] at ec
    split at ec
    ·rename_i xs h2
     split at ec
     ·rename_i hz
      cases ec;refine ⟨_, hv0, .inl ⟨rfl, vs0, sq0⟩, F, R, σD, y, σ1, r, h1, fun F1 H1 v x1 r1 => ?_⟩;obtain ⟨v1, hv1, r2⟩ := r1.take (bm h2);rw [hv0] at hv1; cases hv1;obtain ⟨l, vs, lc, hl, hlen, upd'⟩ := Rel.listAt (S := [(y, v)]) (js := []) (xs := xs) r2 rfl;cases lc;obtain ⟨r3, x3⟩ := upd' (xs ++ [y]) (vs ++ [v]) [] (by rw [List.zip_append hlen]; simp) (by simp [hlen]);refine ⟨_, vs, v, rfl, rfl, hl, by omega, ?_⟩;have r4 := (Rel.put (R := R) r3 hv0);rw [List.set_set] at r4;exact k F1 _ .non (x1.trans x3) (r4.scal rfl)
     ·cases ec
    ·cases ec
  ·cases ec
noncomputable def pP (i : Nat) (js : List DP) (q : DP) : DG := fun d σ => (bf σ i).bind fun t => (gz js σ).bind fun path => (cF t path).bind fun n => match n with
 | .lst true xs => (q σ).bind fun y => match y with
  | .int k => (ixN xs.length k).map fun j => σ.set i (some (dO t path (.lst true (xs.set j d))))
  | _ => none
 | _ => none
theorem uz : ∀ {xs : List D} {vs : List V} {j : Nat} {d : D} {v : V}, xs.length = vs.length -> j < xs.length -> ∃ x w, ((xs.zip vs) ++ [(d, v)]).Perm ((xs.set j d).zip (vs.set j v) ++ [(x, w)]) := by
 intro xs
 induction xs with
 | nil => intro vs j d v hl hj; exact absurd hj (Nat.not_lt_zero _)
 | cons x xs ih =>
  intro vs j d v hl hj;cases vs with
  | nil => cases hl
  | cons w vs => cases j with
   | zero =>
    refine ⟨x, w, ?_⟩;show ((x, w) :: (xs.zip vs ++ [(d, v)])).Perm ((d, v) :: (xs.zip vs ++ [(x, w)]));have h1 : ((x, w) :: (xs.zip vs ++ [(d, v)])).Perm ((x, w) :: (d, v) :: xs.zip vs) := (List.perm_append_comm).cons _;have h2 : ((d, v) :: (xs.zip vs ++ [(x, w)])).Perm ((d, v) :: (x, w) :: xs.zip vs) := (List.perm_append_comm).cons _;exact (h1.trans (.swap _ _ _)).trans h2.symm
   | succ j =>
    obtain ⟨y, u, h⟩ := ih (vs := vs) (j := j) (d := d) (v := v) (Nat.succ.inj hl) (Nat.lt_of_succ_lt_succ hj);exact ⟨y, u, h.cons _⟩
theorem wZ (ho : QP X o i js) (hq : QB X a q) (ha : autoParam (∀ v, assign (.Subscript o a pos) X.env v = (do
   let ov <- holding [v] (eval o X.env)
   let iv <- holding [v, ov] (eval a X.env)
   standAt pos
   holding [v, ov, iv] (setItem ov iv v)
   release [v, ov, iv] [])) li._auto_1) : QG X (.Subscript o a pos) (pP i js q) [] := t9 (Cp ho hq rY ha) fun v σ H Q hq0 => by
 obtain ⟨F, R, σD, d, σD', r, ec, k⟩ := hq0;unfold pP at ec;rcases h1 : bf σD i with _ | t
 ·rw [h1] at ec; cases ec
 ·rw [h1] at ec; simp only [bind_some] at ec
  rcases h2 : gz js σD with _ | path
  ·rw [h2] at ec; cases ec
  ·rw [h2] at ec; simp only [bind_some] at ec
   rcases h3 : cF t path with _ | n
   ·rw [h3] at ec; cases ec
   ·rw [h3] at ec; simp only [bind_some] at ec
    split at ec
    ·rename_i xs
     rcases h4 : q σD with _ | y
     ·rw [h4] at ec; cases ec
     ·rw [h4] at ec; simp only [bind_some] at ec
      split at ec
      ·rename_i kk
       rcases h5 : ixN xs.length kk with _ | j
       ·rw [h5] at ec; cases ec
       ·rw [h5] at ec; cases ec
        obtain ⟨v0, hv0, r0⟩ := r.take (bm h1);obtain ⟨l0, vs0, lc0, hl0, _⟩ := Rel.listAt (S := [(d, v)]) r0 h3;refine ⟨F, _, σD, v0, path, .ref l0, r, hv0, h2, lc0, fun F1 H1 g1 => ?_⟩;refine ⟨F1, _, σD, _, r.grow g1, h4, fun F2 H2 u g2 b2 => ?_⟩;have g3 := g1.trans g2;obtain ⟨v1, hv1, r1⟩ := (r.grow g3).take (bm h1);rw [hv0] at hv1; cases hv1;obtain ⟨l, vs, lc, hl, hlen, upd'⟩ := Rel.listAt (S := [(d, v)]) r1 h3;have el : l0 = l := by
         have := (lc0.grow g3.k).uniq lc
         injection this
        subst el;have hj : j < xs.length := (mM h5).2.1;obtain ⟨xo, wo, pm⟩ := uz (d := d) (v := v) hlen hj;obtain ⟨r3, x3⟩ := upd' (xs.set j d) (vs.set j v) [(xo, wo)] pm (by simp [hlen]);refine ⟨l0, vs, kk, j, rfl, b2.int, hl, by rw [<- hlen]; exact h5, ?_⟩;have r4 := (Rel.put (R := (xo, wo) :: R) r3 hv0);rw [List.set_set] at r4;exact k F2 _ σ (g3.x.trans x3) Kp.refl r4.pop
      ·cases ec
    ·cases ec
end
section
variable {K : PySem.W.Frag} {F F' : Addr -> Prop} {H H' : Hp} {σD : ar} {σ : St} {R S : Ro}
theorem OwL.drop : ∀ {n : Nat} {xs : List D} {vs : List V}, OwL K F H xs vs [] -> OwL K F H (xs.drop n) (vs.drop n) []
 | 0, _, _, h => h
 | n + 1, [], vs, h => by simp only [OwL] at h; rw [h.1]; simp [OwL]
 | n + 1, x :: xs, vs, h => by
  simp only [OwL] at h;obtain ⟨v, ws, L1, L2, rfl, h1, h2, e⟩ := h;obtain ⟨rfl, rfl⟩ := List.append_eq_nil_iff.mp e.symm;exact OwL.drop (n := n) h2
theorem OwL.take : ∀ {n : Nat} {xs : List D} {vs : List V}, OwL K F H xs vs [] -> OwL K F H (xs.take n) (vs.take n) []
 | 0, _, _, _ => by simp [OwL]
 | n + 1, [], vs, h => by simp only [OwL] at h; rw [h.1]; simp [OwL]
 | n + 1, x :: xs, vs, h => by
  simp only [OwL] at h;obtain ⟨v, ws, L1, L2, rfl, h1, h2, e⟩ := h;obtain ⟨rfl, rfl⟩ := List.append_eq_nil_iff.mp e.symm;simp only [List.take_succ_cons, OwL];exact ⟨v, ws.take n, [], [], rfl, h1, OwL.take (n := n) h2, rfl⟩
theorem Rel.pushL : ∀ {xs : List D} {vs : List V}, OwL K F H xs vs [] -> Rel K F H σD σ R -> Rel K F H σD σ (xs.zip vs ++ R)
 | [], vs, h, r => by simp only [OwL] at h; rw [h.1]; exact r
 | x :: xs, vs, h, r => by
  simp only [OwL] at h;obtain ⟨v, ws, L1, L2, rfl, h1, h2, e⟩ := h;obtain ⟨rfl, rfl⟩ := List.append_eq_nil_iff.mp e.symm;exact (Rel.pushL h2 r).push h1
end
noncomputable def jB {α : Type} (xs : List α) (lo hi : Option Int) : List α := (xs.drop (HT.sIx xs.length 0 lo)).take (HT.sIx xs.length xs.length hi - HT.sIx xs.length 0 lo)
noncomputable def kj : Option DP -> ar -> Option (Option Int)
 | none, _ => some none
 | some p, σ => (p σ).bind fun d => match d with | .int i => some (some i) | _ => none
noncomputable def rO (K : PySem.W.Frag) (p : Option DP) : TO := fun σ H Q => ∃ F R σD o, Rel K F H σD σ R /\ kj p σD = some o /\ ∀ F' H', Grow F H F' H' -> Q o H'
noncomputable def QO (X : Cx) (e : Option Expr) (p : Option DP) : Prop := PO X e (rO X.K p)
theorem yq {X : Cx} {e : Option Expr} {t t' : TO} (h : PO X e t) (i : ∀ σ H Q, t' σ H Q -> t σ H Q) : PO X e t' := fun aa s σ H Q I h' => h aa s σ H Q I (i σ H Q h')
section
variable {X : Cx} {e a b : Expr} {lo hi : Option Expr} {pl ph : Option DP} {p q : DP} {c c' : DE} {pos p2 : Pos} {i : Nat}
theorem kc : QO X none none := yq A0 fun σ H Q hq0 => by obtain ⟨F, R, σD, o, r, ec, k⟩ := hq0; cases ec; exact k F H Grow.refl
theorem g7 (h : QB X e p) : QO X (some e) (some p) := yq (AZ h) fun σ H Q hq0 => by
 obtain ⟨F, R, σD, o, r, ec, k⟩ := hq0;simp only [kj] at ec;rcases h1 : p σD with _ | d
 ·rw [h1] at ec; cases ec
 ·rw [h1] at ec; simp only [bind_some] at ec
  split at ec
  ·cases ec
   exact ⟨F, R, σD, _, r, h1, fun F' H' v g b => ⟨_, b.int, k F' H' g⟩⟩
  ·cases ec
noncomputable def Gw (c : DE) (pl ph : Option DP) : DE := fun σ => (c σ).bind fun p => match p.1 with
 | .lst _ xs => (kj pl p.2).bind fun l => (kj ph p.2).map fun h => (.lst true (jB (D.fzL xs) l h), p.2)
 | _ => none
noncomputable def Gv (c c' : DE) : DE := fun σ => (c σ).bind fun p => (c' p.2).bind fun q => match p.1, q.1 with
 | .lst true xs, .lst true ys => if xs.length + ys.length <= sizeLine then some (.lst true (xs ++ ys), q.2) else none
 | _, _ => none
noncomputable def gi (xs : List D) : Bool := xs.all fun d => d.sc.isSome
noncomputable def nK (c c' : DE) : DE := fun σ => (c σ).bind fun p => (c' p.2).bind fun q => match p.1, q.1 with
 | .lst true xs, .int n => if gi xs = true /\ -(2 ^ 63) <= n /\ n < 2 ^ 63 /\ xs.length * n.toNat <= sizeLine then some (.lst true (List.replicate n.toNat xs).flatten, q.2) else none
 | _, _ => none
theorem OwL.sc {K : PySem.W.Frag} {F : Addr -> Prop} {H : Hp} : ∀ {xs : List D} {vs : List V} {L : List Addr}, OwL K F H xs vs L -> gi xs = true -> L = [] /\ ∀ F' H', OwL K F' H' xs vs []
 | [], vs, L, h, _ => by simp only [OwL] at h ⊢; exact ⟨h.2, fun _ _ => ⟨h.1, trivial⟩⟩
 | x :: xs, vs, L, h, s => by
  simp only [OwL] at h;obtain ⟨v, ws, L1, L2, rfl, h1, h2, rfl⟩ := h;simp only [gi, List.all_cons, Bool.and_eq_true] at s;obtain ⟨w, hw⟩ := Option.isSome_iff_exists.mp s.1;obtain ⟨rfl, rfl⟩ := h1.sc hw;obtain ⟨rfl, h3⟩ := OwL.sc h2 s.2;exact ⟨rfl, fun F' H' => by simp only [OwL]; exact ⟨v, ws, [], [], rfl, Ow.of_sc hw, h3 F' H', rfl⟩⟩
theorem OwL.app {K : PySem.W.Frag} {F : Addr -> Prop} {H : Hp} : ∀ {xs ys : List D} {vs ws : List V}, OwL K F H xs vs [] -> OwL K F H ys ws [] -> OwL K F H (xs ++ ys) (vs ++ ws) []
 | [], ys, vs, ws, h, h' => by simp only [OwL] at h; rw [h.1]; exact h'
 | x :: xs, ys, vs, ws, h, h' => by
  simp only [OwL] at h;obtain ⟨v, us, L1, L2, rfl, h1, h2, e⟩ := h;obtain ⟨rfl, rfl⟩ := List.append_eq_nil_iff.mp e.symm;simp only [List.cons_append, OwL];exact ⟨v, us ++ ws, [], [], rfl, h1, OwL.app h2 h', rfl⟩
theorem OwL.rep {K : PySem.W.Frag} {F : Addr -> Prop} {H : Hp} {xs : List D} {vs : List V} (h : OwL K F H xs vs []) : ∀ n : Nat, OwL K F H (List.replicate n xs).flatten (List.replicate n vs).flatten []
 | 0 => by simp [OwL]
 | n + 1 => by
  rw [List.replicate_succ, List.replicate_succ, List.flatten_cons, List.flatten_cons];exact OwL.app h (OwL.rep h n)
theorem sn (ha : QE X a c) (hb : QE X b c') : QE X (.BinOp a .Mult b pos) (nK c c') := aO (vV Cz ha hb) fun σ H Q hq0 => by
 obtain ⟨F, R, σD, d, σD', r, ec, k⟩ := hq0;unfold nK at ec;rcases h1 : c σD with _ | ⟨x, σ1⟩
 ·rw [h1] at ec; cases ec
 ·rw [h1] at ec; simp only [bind_some] at ec
  rcases h2 : c' σ1 with _ | ⟨y, σ2⟩
  ·rw [h2] at ec; cases ec
  ·rw [h2] at ec; simp only [bind_some] at ec
   split at ec
   ·rename_i xs n
    split at ec
    ·rename_i hz
     cases ec;refine ⟨F, R, σD, _, σ1, r, h1, fun F1 H1 v x1 r1 => ?_⟩;refine ⟨F1, _, σ1, _, _, r1, h2, fun F2 H2 u x2 r2 => ?_⟩;have hu : u = .int n := (r2.bor (by simp)).int;have r3 := r2.pop;obtain ⟨l, vs, rfl, hw, hlw, r4⟩ := r3.openL;obtain ⟨L, ⟨L1, L2, o1, h12, _⟩, _, _⟩ := r3.front.own;simp only [Ow] at o1;obtain ⟨l', vs', L', e1, e2, ol, _⟩ := o1;cases e1;rw [hw] at e2; cases e2;have os := (ol.sc hz.1).2 F2 H2;refine ⟨l, n, vs, rfl, hu, hw, hz.2.1, hz.2.2.1, by rw [<- hlw]; exact hz.2.2.2, fun p hp => ?_⟩;have orp := os.rep n.toNat;obtain ⟨r6, x6⟩ := (Rel.pushL orp r3.pop).layL orp.length.symm hp;exact k F2 _ _ ((x1.trans x2).trans x6) r6
    ·cases ec
   ·cases ec
noncomputable def zn : D -> Option D
 | .int i => some (.int (-i))
 | _ => none
noncomputable def fO (p : DP) : DP := fun σ => (p σ).bind zn
theorem xV {x d : D} (h : zn x = some d) : ∃ i, x = .int i /\ d = .int (-i) := by
 cases x <;> first | (cases h; exact ⟨_, rfl, rfl⟩) | cases h
theorem eQ (ha : QB X a p) : QB X (.UnaryOp .USub a pos) (fO p) := aO (Ec BM ha) fun σ H Q hq0 => by
 obtain ⟨F, R, σD, d, r, ec, k⟩ := hq0;unfold fO at ec;rcases h1 : p σD with _ | x
 ·rw [h1] at ec; cases ec
 ·rw [h1] at ec; simp only [bind_some] at ec
  obtain ⟨i, rfl, rfl⟩ := xV ec;exact ⟨F, R, σD, _, r, h1, fun F1 H1 v g1 b1 => ⟨i, b1.int, k F1 H1 _ g1 ⟨[], Ow.of_sc rfl⟩⟩⟩
noncomputable def gW (t : DT) (c c' : DE) : DE := fun σ => (t σ).bind fun p => if p.1 = true then c p.2 else c' p.2
theorem iN {t : DT} {cnd : Expr} (ht : QT X cnd t) (ha : QE X a c) (hb : QE X b c') : QE X (.IfExp cnd a b pos) (gW t c c') := aO (yS ht ha hb) fun σ H Q hq0 => by
 obtain ⟨F, R, σD, d, σD', r, ec, k⟩ := hq0;unfold gW at ec;rcases h : t σD with _ | ⟨x, σ1⟩
 ·rw [h] at ec; cases ec
 ·rw [h] at ec; simp only [bind_some] at ec
  refine ⟨F, R, σD, x, σ1, r, h, fun F1 H1 x1 r1 => ?_⟩;cases x
  ·simp only [Bool.false_eq_true, if_false] at ec ⊢
   exact ⟨F1, R, σ1, d, σD', r1, ec, fun F2 H2 v x2 r2 => k F2 H2 v (x1.trans x2) r2⟩
  ·simp only [if_true] at ec ⊢
   exact ⟨F1, R, σ1, d, σD', r1, ec, fun F2 H2 v x2 r2 => k F2 H2 v (x1.trans x2) r2⟩
variable {cO : List Expr}
end
end DD
namespace L2
open PySem PySem.Spec PyProof.Rows
noncomputable def Dt (K : PySem.W.Frag) (a b : Addr) : It :=
 ⟨fun i H => ∃ xs ys x y, cZ K H a xs /\ cZ K H b ys /\ xs[i]? = some x /\ ys[i]? = some y,
  fun i H x H' => ∃ p u w, (∀ xs, cZ K H a xs -> xs[i]? = some u) /\ (∀ ys, cZ K H b ys -> ys[i]? = some w) /\ H p = none /\ H' = ay H p (.tup [u, w]) /\ x = .ref p,
  fun i H => ∃ xs ys, cZ K H a xs /\ cZ K H b ys /\ (xs.length <= i \/ ys.length <= i)⟩
theorem Inv.turnT {X : Cx} {aa : List (Addr × Obj)} {σ : St} {H : Hp} {s : Shared} {h' : Heap} {ch : List Addr} {u w : V} {x y : Value} (I : Inv X aa σ H s) (hf : ∀ b ∈ ch, eJ X aa H b) (ru : RelV u x) (rw' : RelV w y)
  (hk : ∀ c o, c ∉ ch -> s.heap.get? c = some o -> h'.get? c = some o) (hT : IsPair h' s.heap.objs.size x y) (hth : ∀ b ∈ ch, ∃ o, h'.get? b = some o) : Inv X aa σ (ay H s.heap.objs.size (.tup [u, w])) { s with heap := h' } := by
 have hfr : H s.heap.objs.size = none := I.fresh;have nch : ∀ b o, H b = some o -> b ∉ ch := fun b o e hb => by rw [(hf b hb).1] at e; cases e
 have ne : ∀ b o, s.heap.get? b = some o -> b ≠ s.heap.objs.size := fun b o e => Nat.ne_of_lt (Heap.lt_size e)
 refine I.step (g' := s.gens) (d' := s.drawn) (t' := s.toks) (ch := ch) (fun b hb => ⟨(hf b hb).2.2.2.1, (hf b hb).2.1, (hf b hb).2.2.2.2.1, (hf b hb).2.2.2.2.2⟩) (fun b o _ _ hc e _ => hk b o hc e)
  (fun b o _ _ hc e _ => ⟨o.slots, hk b o hc e⟩) (fun b o _ e n => by rw [aw (ne b o e)]; exact n) (fun b o hc e => ⟨o, hk b o hc e⟩) (fun b xs e => by rw [aw (cv e hfr)]; exact e)
  (fun b o v e => by rw [aw (cv e hfr)]; exact e) (fun b ps e => ⟨#[], by rw [aw (cv e hfr), e]; simp⟩) (fun m hm => ?_) (fun b o e => ?_) I.bare
 ·obtain ⟨o, es, ep, ho, r⟩ := hm
  exact ⟨o, es, ep, hk _ o (fun z => (hf _ z).2.1 rfl) ho, r⟩
 ·by_cases hb : b = s.heap.objs.size
  ·subst hb
   rw [bG] at e;cases e;refine ⟨by show 2 <= sizeLine; decide, [x, y], .cons ru (.cons rw' .nil), ⟨_, hT, rfl, _, rfl⟩⟩
  ·rw [aw hb] at e
   refine (I.hok b o e).stay (fun c v hc q => hk c v ?_ q) (fun c q => by rw [aw (cv q hfr)]; exact q) fun c xs q => by rw [aw (cv q hfr)]; exact q
   rcases hc with rfl | hc
   ·exact nch _ _ e
   ·exact nch _ _ hc
theorem Inv.turnN {X : Cx} {aa : List (Addr × Obj)} {σ : St} {H : Hp} {s : Shared} {h' : Heap} {ch : List Addr} (I : Inv X aa σ H s) (hf : ∀ b ∈ ch, eJ X aa H b)
  (hk : ∀ c o, c ∉ ch -> s.heap.get? c = some o -> h'.get? c = some o) : Inv X aa σ H { s with heap := h' } := by
 have nch : ∀ b o, H b = some o -> b ∉ ch := fun b o e hb => by rw [(hf b hb).1] at e; cases e
 refine I.step (g' := s.gens) (d' := s.drawn) (t' := s.toks) (ch := ch) (fun b hb => ⟨(hf b hb).2.2.2.1, (hf b hb).2.1, (hf b hb).2.2.2.2.1, (hf b hb).2.2.2.2.2⟩) (fun b o _ _ hc e _ => hk b o hc e)
  (fun b o _ _ hc e _ => ⟨o.slots, hk b o hc e⟩) (fun b o _ e n => n) (fun b o hc e => ⟨o, hk b o hc e⟩) (fun b xs e => e)
  (fun b o v e => e) (fun b ps e => ⟨#[], by rw [e]; simp⟩) (fun m hm => ?_) (fun b o e => ?_) I.bare
 ·obtain ⟨o, es, ep, ho, r⟩ := hm
  exact ⟨o, es, ep, hk _ o (fun z => (hf _ z).2.1 rfl) ho, r⟩
 ·refine (I.hok b o e).stay (fun c v hc q => hk c v ?_ q) (fun c q => q) fun c xs q => q
  rcases hc with rfl | hc
  ·exact nch _ _ e
  ·exact nch _ _ hc
theorem dR {X : Cx} {aa : List (Addr × Obj)} {σ : St} {H : Hp} {s : Shared} {a b : Addr} {xs : List V} (I : Inv X aa σ H s) (h : cZ X.K H a xs) (hb : eJ X aa H b) (hob : ∃ o, s.heap.get? b = some o /\ o.cls ≠ .type "list") : a ≠ b := by
 rintro rfl;obtain ⟨its, r, ⟨o, n, e, c, _⟩, _⟩ := I.list h;obtain ⟨o', e', c'⟩ := hob;rw [e] at e'; cases e';exact c' c
theorem yx {P : Program} {w : World} {K : PySem.W.Frag} {elts : List Expr} {x1 : Nat} {tpos : Pos} (a b z TI TO i1 i2 : Addr) (D1 : TI ≠ z) (D2 : TO ≠ z) (D3 : i1 ≠ z) (D4 : i2 ≠ z) (D5 : TI ≠ TO) (D6 : TI ≠ i1) (D7 : TI ≠ i2) (D8 : TO ≠ i1) (D9 : TO ≠ i2) (D10 : i1 ≠ i2) :
  mi P w K (.Tuple elts x1 tpos) (Dt K a b) [z, TI, TO, i1, i2] z (fun i h => IsZip h z TI TO .none /\ IsPair h TI (.ref i1) (.ref i2) /\ (∃ u v, IsPair h TO u v) /\ h.IsListIter i1 a i /\ h.IsListIter i2 b i) where
 mem := by simp
 obj := fun i h hq0 c hc => by
  obtain ⟨hz, hTI, ⟨u, v, hTO⟩, ⟨o1, e1, c1, d1⟩, ⟨o2, e2, c2, d2⟩⟩ := hq0;simp only [List.mem_cons, List.not_mem_nil, or_false] at hc;rcases hc with rfl | rfl | rfl | rfl | rfl
  ·exact ⟨_, hz, fun v z => nomatch z⟩
  ·exact ⟨_, hTI, fun v z => nomatch z⟩
  ·exact ⟨_, hTO, fun v z => nomatch z⟩
  ·exact ⟨_, e1, fun v z => by rw [d1] at z; cases z⟩
  ·exact ⟨_, e2, fun v z => by rw [d2] at z; cases z⟩
 keep := fun i h h' ⟨hz, hTI, ⟨u, v, hTO⟩, h1, h2⟩ k => ⟨k z (by simp) _ hz, k TI (by simp) _ hTI, ⟨u, v, k TO (by simp) _ hTO⟩, h1.at fun o e => k i1 (by simp) o e, h2.at fun o e => k i2 (by simp) o e⟩
 item := by
  rintro X hP hw hK hc i aa s σ H E I hf ⟨hz, hTI, ⟨ua, ub, hTO⟩, h1, h2⟩ ⟨xs, ys, x, y, hq1, hq2, hx, hy⟩;subst hP hw hK;obtain ⟨its1, rv1, p1, _⟩ := I.list hq1;obtain ⟨its2, rv2, p2, _⟩ := I.list hq2;obtain ⟨u1, hu1, ru1⟩ := rv1.get hx;obtain ⟨u2, hu2, ru2⟩ := rv2.get hy;have ob : ∀ c ∈ [z, TO, i1, i2], ∃ o, s.heap.get? c = some o /\ o.cls ≠ .type "list" := fun c hc => by
   obtain ⟨o1, e1, c1, d1⟩ := id h1;obtain ⟨o2, e2, c2, d2⟩ := id h2;simp only [List.mem_cons, List.not_mem_nil, or_false] at hc;rcases hc with rfl | rfl | rfl | rfl
   ·exact ⟨_, hz, by simp⟩
   ·exact ⟨_, hTO, by simp⟩
   ·exact ⟨_, e1, by rw [c1]; simp⟩
   ·exact ⟨_, e2, by rw [c2]; simp⟩
  have na : ∀ c ∈ [z, TO, i1, i2], a ≠ c := fun c hc => dR I hq1 (hf c (by simp at hc ⊢; rcases hc with h | h | h | h <;> simp [h])) (ob c hc)
  have nb : ∀ c ∈ [z, TO, i1, i2], b ≠ c := fun c hc => dR I hq2 (hf c (by simp at hc ⊢; rcases hc with h | h | h | h <;> simp [h])) (ob c hc)
  have D : ZipApart z TI TO i1 i2 a b := ⟨D1, D2, D3, D4, D5, D6, D7, D8, D9, D10, na z (by simp), na TO (by simp), na i1 (by simp), na i2 (by simp), nb z (by simp), nb TO (by simp), nb i1 (by simp), nb i2 (by simp)⟩;refine wpAny_pyNext_zip_item D hz hTI hTO h1 h2 p1.isList p2.isList (x := u1) (y := u2) (by simpa using hu1) (by simpa using hu2) fun h' a1 a2 a3 a4 a5 a6 hk => ?_
  have hf4 : ∀ c ∈ [z, TO, i1, i2], eJ X aa H c := fun c hc => hf c (by simp at hc ⊢; rcases hc with h | h | h | h <;> simp [h])
  have hk' : ∀ c o, c ∉ [z, TO, i1, i2] -> s.heap.get? c = some o -> h'.get? c = some o := fun c o hc e => hk c o (fun q => hc (by simp [q])) (fun q => hc (by simp [q])) (fun q => hc (by simp [q])) (fun q => hc (by simp [q])) e
  have I1 : Inv X aa σ (ay H s.heap.objs.size (.tup [x, y])) { s with heap := h' } := I.turnT hf4 ru1 ru2 hk' a5 (fun c hc => by
   obtain ⟨o1, e1, _⟩ := id a3;obtain ⟨o2, e2, _⟩ := id a4;simp only [List.mem_cons, List.not_mem_nil, or_false] at hc;rcases hc with rfl | rfl | rfl | rfl
   ·exact ⟨_, a1⟩
   ·exact ⟨_, a2⟩
   ·exact ⟨_, e1⟩
   ·exact ⟨_, e2⟩)
  have hfr : H s.heap.objs.size = none := I.fresh;refine ⟨_, rfl, wpAny_letOwnedTupleGo_zip (s := { s with heap := h' }) a1 fun h'' z1 sb => ?_⟩;have hf5 : ∀ c ∈ [z, TI, TO, i1, i2], (ay H s.heap.objs.size (.tup [x, y])) c = none := fun c hc => by
   have lt : c < s.heap.objs.size := by
    obtain ⟨o1, e1, _⟩ := id h1;obtain ⟨o2, e2, _⟩ := id h2;simp only [List.mem_cons, List.not_mem_nil, or_false] at hc;rcases hc with rfl | rfl | rfl | rfl | rfl
    ·exact Heap.lt_size hz
    ·exact Heap.lt_size hTI
    ·exact Heap.lt_size hTO
    ·exact Heap.lt_size e1
    ·exact Heap.lt_size e2
   rw [aw (Nat.ne_of_lt lt)]; exact (hf c hc).1
  have I2 : Inv X aa σ (ay H s.heap.objs.size (.tup [x, y])) { s with heap := h'' } := Inv.turnN (s := { s with heap := h' }) (ch := [z]) I1 (fun c hc => by
   have : c = z := by simpa using hc
   subst this;exact ⟨hf5 c (by simp), (hf c (by simp)).2⟩) (fun c o hc e => (sb.2 c (fun q => hc (by simp [q]))).trans e)
  refine ⟨.ref s.heap.objs.size, _, I2, rfl, ⟨_, x, y, fun zs hzs => by rw [I.list_inj hzs hq1]; exact hx, fun zs hzs => by rw [I.list_inj hzs hq2]; exact hy, hfr, rfl, rfl⟩, ⟨z1, ?_, ⟨u1, u2, ?_⟩, ?_, ?_⟩, hf5⟩
  ·exact (sb.2 TI D1).trans (hk' TI _ (by simp [D1, D5, D6, D7]) hTI)
  ·exact (sb.2 TO D2).trans a2
  ·exact a3.at fun o e => (sb.2 i1 D3).trans e
  ·exact a4.at fun o e => (sb.2 i2 D4).trans e
 done := by
  rintro X hP hw hK hc i aa s σ H E I hf ⟨hz, hTI, ⟨ua, ub, hTO⟩, h1, h2⟩ ⟨xs, ys, hq1, hq2, hend⟩;subst hP hw hK;obtain ⟨its1, rv1, p1, _⟩ := I.list hq1;obtain ⟨its2, rv2, p2, _⟩ := I.list hq2;have ob : ∀ c ∈ [z, TO, i1, i2], ∃ o, s.heap.get? c = some o /\ o.cls ≠ .type "list" := fun c hc => by
   obtain ⟨o1, e1, c1, d1⟩ := id h1;obtain ⟨o2, e2, c2, d2⟩ := id h2;simp only [List.mem_cons, List.not_mem_nil, or_false] at hc;rcases hc with rfl | rfl | rfl | rfl
   ·exact ⟨_, hz, by simp⟩
   ·exact ⟨_, hTO, by simp⟩
   ·exact ⟨_, e1, by rw [c1]; simp⟩
   ·exact ⟨_, e2, by rw [c2]; simp⟩
  have hf4 : ∀ c ∈ [z, TO, i1, i2], eJ X aa H c := fun c hc => hf c (by simp at hc ⊢; rcases hc with h | h | h | h <;> simp [h])
  have na : ∀ c ∈ [z, TO, i1, i2], a ≠ c := fun c hc => dR I hq1 (hf4 c hc) (ob c hc)
  have nb : ∀ c ∈ [z, TO, i1, i2], b ≠ c := fun c hc => dR I hq2 (hf4 c hc) (ob c hc)
  have D : ZipApart z TI TO i1 i2 a b := ⟨D1, D2, D3, D4, D5, D6, D7, D8, D9, D10, na z (by simp), na TO (by simp), na i1 (by simp), na i2 (by simp), nb z (by simp), nb TO (by simp), nb i1 (by simp), nb i2 (by simp)⟩;have hl1 := rv1.length;have hl2 := rv2.length;refine wpAny_pyNext_zip_end (I.ok.hd hc) D hz hTI hTO h1 h2 p1.isList p2.isList (by rcases hend with h | h; (left; simp; omega); (right; simp; omega)) fun h' hk => ⟨rfl, ?_⟩
  exact I.turnN hf4 fun c o hc e => hk c o (fun q => hc (by simp [q])) (fun q => hc (by simp [q])) (fun q => hc (by simp [q])) (fun q => hc (by simp [q])) e
 self := fun _ _ _ _ _ ⟨hz, _⟩ h => wpAny_pyIter_zip hz h
noncomputable def FD (K : PySem.W.Frag) (ta : TA) : TI := fun σ H R => ta σ H fun vs H1 => ∃ a b, vs = [.ref a, .ref b] /\ (∃ xs, cZ K H1 a xs) /\ (∃ ys, cZ K H1 b ys) /\ R (Dt K a b) H1
theorem Cm {X : Cx} {elts : List Expr} {x1 : Nat} {tpos : Pos} {a b : Expr} {ta : TA} {p pos : Pos} (hg : Gl X "zip") (hm : X.mg "zip" = none) (ha : PA X [a, b] ta) (hs : autoParam (starEach [a, b] X.env = [(false, eval a X.env), (false, eval b X.env)]) au._auto_1) (hs2 : autoParam (starEach [b] X.env = [(false, eval b X.env)]) au._auto_1) :
  PI X (.Tuple elts x1 tpos) (.Call (.Name "zip" p) [a, b] [] pos) (FD X.K ta) := by
 intro aa s σ H R I h;refine Call_ (fu I hg hm boot_zip (PyProof.Rows.callWith_type1 (bq (ha pos aa s σ H _ I h) fun us s1 ⟨vs, H1, I1, r1, q1⟩ => ?_) (by rw [hs, hs2]) (by rw [hs2]; rfl)));obtain ⟨l1, l2, e, ⟨xs, hq1⟩, ⟨ys, hq2⟩, q⟩ := q1;subst e;cases r1 with
 | cons r rr =>
  cases rr with
  | cons r' rr =>
   cases rr;cases r;cases r';obtain ⟨its1, rv1, p1, _⟩ := I1.list hq1;obtain ⟨its2, rv2, p2, _⟩ := I1.list hq2;refine call_zip_2 p1.isList p2.isList fun h' hz hTI hTO h1 h2 hsz hk => ?_
   have I2 : Inv X aa σ H1 { s1 with heap := h' } := I1.kept (t' := s1.toks) hk;refine wpAny_pyIter_zip (s := { s1 with heap := h' }) hz ?_;have lt : ∀ k : Nat, s1.heap.objs.size <= s1.heap.objs.size + k := fun k => Nat.le_add_right _ _
   refine ⟨_, [s1.heap.objs.size + 4, s1.heap.objs.size + 2, s1.heap.objs.size + 3, s1.heap.objs.size, s1.heap.objs.size + 1], _, _, H1, rfl, I2,
    yx l1 l2 (s1.heap.objs.size + 4) (s1.heap.objs.size + 2) (s1.heap.objs.size + 3) s1.heap.objs.size (s1.heap.objs.size + 1) ?_ ?_ ?_ ?_ ?_ ?_ ?_ ?_ ?_ ?_, ⟨hz, hTI, ⟨_, _, hTO⟩, h1, h2⟩, fun c hc => ?_, q⟩
   all_goals first
    | (show _ + _ ≠ _ + _; intro z; exact absurd (Nat.add_left_cancel z) dC)
    | (show _ ≠ _ + _; intro z; exact absurd z (by have := Nat.lt_add_of_pos_right (n := s1.heap.objs.size) (k := 4) dC; have := Nat.lt_add_of_pos_right (n := s1.heap.objs.size) (k := 1) dC; exact Nat.ne_of_lt (by assumption)))
    | (show _ + _ ≠ _; exact Nat.ne_of_gt (Nat.lt_add_of_pos_right dC))
    | skip
   have hle : s1.heap.objs.size <= c := by
    simp only [List.mem_cons, List.not_mem_nil, or_false] at hc;rcases hc with rfl | rfl | rfl | rfl | rfl
    ·exact lt 4
    ·exact lt 2
    ·exact lt 3
    ·exact Nat.le_refl _
    ·exact lt 1
   obtain ⟨f0, f1, f2, f3, f4, f5⟩ := I1.fpOk hle (I1.hok.fresh hle);exact ⟨f0, f1, f2, f3, f4, f5⟩
end L2
namespace DD
open PySem PySem.Spec PyProof.Rows L2
noncomputable def om (c c' : DE) : DI := fun σ => (c σ).bind fun p => (c' p.2).bind fun q => match p.1, q.1 with
 | .lst _ xs, .lst _ ys => some (((D.fzL xs).zip (D.fzL ys)).map fun z => .tup [z.1, z.2], q.2)
 | _, _ => none
theorem Bt {K : PySem.W.Frag} {F : Addr -> Prop} {H : Hp} {xs ys : List D} {a b : Addr} {vs ws : List V} (fl : FL K F H a vs) (ol : OwL K F H xs vs []) (fl' : FL K F H b ws) (ol' : OwL K F H ys ws []) :
  ni K (Dt K a b) ((xs.zip ys).map fun z => .tup [z.1, z.2]) F H where
 item := fun i d F1 H1 x1 dm e => by
  rw [List.getElem?_map] at e;rcases hz : (xs.zip ys)[i]? with _ | ⟨x, y⟩
  ·rw [hz] at e; cases e
  ·rw [hz] at e; cases e
   obtain ⟨hx, hy⟩ := List.getElem?_zip_eq_some.mp hz;obtain ⟨u, La, Lx, Lb, e1, eL, o1, _⟩ := ol.kid hx;have eLx : Lx = [] := (List.append_eq_nil_iff.mp (List.append_eq_nil_iff.mp eL.symm).1).2;subst eLx;obtain ⟨w, La', Lx', Lb', e2, eL', o2, _⟩ := ol'.kid hy;have eLx' : Lx' = [] := (List.append_eq_nil_iff.mp (List.append_eq_nil_iff.mp eL'.symm).1).2;subst eLx';refine ⟨⟨vs, ws, u, w, (fl.ext x1).sq, (fl'.ext x1).sq, e1, e2⟩, fun v H2 ⟨p, u', w', h1, h2, hp, hH, hv⟩ => ?_⟩;subst hH hv;have h1' := h1 vs (fl.ext x1).sq;rw [e1] at h1'; cases h1';have h2' := h2 ws (fl'.ext x1).sq;rw [e2] at h2'; cases h2';have nF : ∀ c, F1 c -> c ≠ p := fun c fc z => by obtain ⟨o, h⟩ := dm c fc; rw [z, hp] at h; cases h
   have gr : Grow F1 H1 (fun c => F1 c \/ c = p) (ay H1 p (.tup [u, w])) := by
    refine ⟨fun c fc => ⟨.inl fc, aw (nF c fc)⟩, fun c o e => by rw [aw (cv e hp)]; exact e, fun c fc => ?_, fun _ c fc => ?_⟩
    ·rcases fc with fc | fc
     ·exact .inl fc
     ·exact .inr (fc ▸ hp)
    ·rcases fc with fc | fc
     ·rw [aw (nF c fc)]; exact dm c fc
     ·subst fc; exact ⟨_, bG⟩
   refine ⟨_, gr, ?_⟩;simp only [Ow, OwL];refine ⟨p, [u, w], rfl, .inl ⟨.inr rfl, bG⟩, u, [w], [], [], rfl, (o1.mono x1 (fun a ha => by cases ha)).mono gr.x (fun a ha => by cases ha), ⟨w, [], [], [], rfl, (o2.mono x1 (fun a ha => by cases ha)).mono gr.x (fun a ha => by cases ha), ⟨rfl, rfl⟩, rfl⟩, rfl⟩
 done := fun F1 H1 x1 => ⟨vs, ws, (fl.ext x1).sq, (fl'.ext x1).sq, by
  have h1 := ol.length;have h2 := ol'.length;simp only [List.length_map, List.length_zip];omega⟩
section
variable {X : Cx} {a b o e : Expr} {c c' : DE} {p p1 pos1 : Pos} {elts : List Expr} {x1 : Nat} {tpos pos : Pos}
theorem B9 (hgl : Gl X "zip") (hm : X.mg "zip" = none) (ha : QE X a c) (hb : QE X b c') (hs : autoParam (starEach [a, b] X.env = [(false, eval a X.env), (false, eval b X.env)]) au._auto_1) (hs2 : autoParam (starEach [b] X.env = [(false, eval b X.env)]) au._auto_1) :
  QI X (.Tuple elts x1 tpos) (.Call (.Name "zip" p1) [a, b] [] pos1) (om c c') := iA (Cm hgl hm (cE ha (cE hb dQ hs2) (by rw [hs, hs2])) hs hs2) fun σ H R hq0 => by
 obtain ⟨F, Ro, σD, xs, σD', r, ec, k⟩ := hq0;unfold om at ec;rcases h1 : c σD with _ | ⟨x, σ1⟩
 ·rw [h1] at ec; cases ec
 ·rw [h1] at ec; simp only [bind_some] at ec
  rcases h2 : c' σ1 with _ | ⟨y, σ2⟩
  ·rw [h2] at ec; cases ec
  ·rw [h2] at ec; simp only [bind_some] at ec
   split at ec
   ·cases ec
    refine ⟨F, Ro, σD, _, σ1, r, h1, fun F1 H1 v x1 r1 => ?_⟩;refine ⟨F1, _, σ1, _, _, r1, h2, fun F2 H2 u x2 r2 => ?_⟩;obtain ⟨F3, x3, r3, o3⟩ := r2.freeze;obtain ⟨F4, x4, r4, o4⟩ := (r3.pop).freeze;have o3' := o3.mono x4 (fun a ha => by cases ha);simp only [D.fz, Ow] at o3' o4;obtain ⟨a1, vs, rfl, fl, ol, _⟩ := o4;obtain ⟨a2, ws, rfl, fl', ol', _⟩ := o3';exact ⟨a1, a2, rfl, ⟨vs, fl.sq⟩, ⟨ws, fl'.sq⟩, k F4 H2 _ ((x1.trans x2).trans (x3.trans x4)) r4.pop (Bt fl ol fl' ol')⟩
   ·cases ec
theorem uA {xs : List D} {vs : List V} {j : Nat} {x : D} {w : V} (h1 : xs[j]? = some x) (h2 : vs[j]? = some w) : (x, w) ∈ xs.zip vs := by
 have : (xs.zip vs)[j]? = some (x, w) := List.getElem?_zip_eq_some.mpr ⟨h1, h2⟩;exact List.mem_of_getElem? this
theorem Rel.pick {K : PySem.W.Frag} {F : Addr -> Prop} {H : Hp} {σD : ar} {σ : St} {R S : Ro} {x : D} {w : V} (r : Rel K F H σD σ (S ++ R)) (h : (x, w) ∈ S) : Rel K F H σD σ ((x, w) :: R) := by
 obtain ⟨A, B, rfl⟩ := List.append_of_mem h;have r1 : Rel K F H σD σ ((A ++ B) ++ ((x, w) :: R)) := r.perm (by
  have h1 : A ++ (x, w) :: B ++ R = A ++ ((x, w) :: (B ++ R)) := by simp
  rw [h1, List.append_assoc];exact (List.perm_middle.symm).append_left A)
 exact r1.popN
theorem qQ (ha : QE X a c) (hb : QE X b c') (hs : autoParam (i4 b) jP._auto_1) : QE X (.Subscript a b pos) (tP c c') := aO (vX tx ha hb hs) fun σ H Q hq0 => by
 obtain ⟨F, R, σD, d, σD', r, ec, k⟩ := hq0;unfold tP at ec;rcases h1 : c σD with _ | ⟨x, σ1⟩
 ·rw [h1] at ec; cases ec
 ·rw [h1] at ec; simp only [bind_some] at ec
  rcases h2 : c' σ1 with _ | ⟨y, σ2⟩
  ·rw [h2] at ec; cases ec
  ·rw [h2] at ec; simp only [bind_some] at ec
   obtain ⟨z, e1, e2⟩ := bH ec;cases e2;refine ⟨F, R, σD, x, σ1, r, h1, fun F1 H1 v x1 r1 => ?_⟩;refine ⟨F1, _, σ1, y, _, r1, h2, fun F2 H2 u x2 r2 => ?_⟩;have bu := r2.bor (d := y) (v := u) (by simp);have r3 := r2.pop;unfold dJ at e1;split at e1
   ·rename_i own xs i
    obtain ⟨j, hj, hx⟩ := ku e1;cases own
    ·obtain ⟨L, ⟨L1, L2, o1, h12, _⟩, _, _⟩ := r3.front.own
     simp only [Ow] at o1;obtain ⟨a1, vs, rfl, fl, ol, _⟩ := o1;obtain ⟨w, La, Lx, Lb, ew, eL, ox, _⟩ := ol.kid hx;have eLx : Lx = [] := (List.append_eq_nil_iff.mp (List.append_eq_nil_iff.mp eL.symm).1).2;subst eLx;refine .inl ⟨a1, vs, i, w, rfl, bu.int, fl.sq, ?_, k F2 H2 w (x1.trans x2) (r3.pop.push ox)⟩;unfold atI; rw [ol.length, hj]; exact ew
    ·obtain ⟨a1, vs, rfl, hh, hl, r4⟩ := r3.openL
     have hjl : j < vs.length := by rw [<- hl]; exact (List.getElem?_eq_some_iff.mp hx).1
     have ew := List.getElem?_eq_getElem hjl;refine .inl ⟨a1, vs, i, vs[j], rfl, bu.int, .inl (.inl hh), ?_, k F2 H2 _ (x1.trans x2) (r4.pop.pick (uA hx ew))⟩;unfold atI; rw [<- hl, hj]; exact ew
   ·rename_i xs i
    obtain ⟨j, hj, hx⟩ := ku e1;obtain ⟨a1, vs, rfl, ft, hl, r4⟩ := r3.openT;have hjl : j < vs.length := by rw [<- hl]; exact (List.getElem?_eq_some_iff.mp hx).1
    have ew := List.getElem?_eq_getElem hjl;refine .inr (.inl ⟨a1, vs, i, vs[j], rfl, bu.int, ft.sq, ?_, k F2 H2 _ (x1.trans x2) (r4.pick (uA hx ew))⟩);unfold atI; rw [<- hl, hj]; exact ew
   ·split at e1
    ·rename_i z2 i hz
     rcases h : atI z2.cps.toList i with _ | ch
     ·rw [h] at e1; cases e1
     ·rw [h] at e1; cases e1
      exact .inr (.inr ⟨z2, i, ch, (r3.bor (by simp)).str, bu.int, hz, h, k F2 H2 _ (x1.trans x2) (r3.pop.scal rfl)⟩)
    ·cases e1
   ·cases e1
end
end DD
namespace L2
open PySem PySem.Spec PyProof.Rows
theorem zl {X : Cx} : Ds X (fun o i H Q => ∃ p xs k v, o = .ref p /\ i = .int k /\ cZ X.K H p xs /\ atI xs k = some v /\ Q v H) := by
 rintro aa s σ H o i ov iv Q I ro ri ⟨p, xs, k, v, e1, e2, hq, he, q⟩;subst e1 e2;cases ro;obtain ⟨t, rfl⟩ := ri;obtain ⟨its, r, pl, hz⟩ := I.list hq;obtain ⟨j, h1, h2, h3, h4, h5⟩ := mQ he;obtain ⟨w, ew, rw'⟩ := r.get h2;have hl := r.length;have hn := jo;have fin : EP X aa σ Q w s := ⟨v, H, I, rw', q⟩;by_cases h0 : 0 <= k
 ·have hj : k.toNat = j := by
   rw [seqIndex_of h0 h5] at h1;exact Option.some.inj h1
  exact wpAny_getItem_list pl.isList h0 oM (by rw [hj]; simpa using ew) fin
 ·have hj : (k + (its.toArray.size : Int)).toNat = j := by
   rw [seqIndex_neg oM h4] at h1;rw [List.size_toArray, <- hl];exact Option.some.inj h1
  exact wpAny_getItem_list_neg pl.isList oM (by rw [List.size_toArray] <;> omega) oM (by rw [hj]; simpa using ew) fin
end L2
namespace DD
open PySem PySem.Spec PyProof.Rows L2
section
variable {X : Cx} {o a e tg : Expr} {q p : DP} {c : DE} {g : D -> D -> Option D} {i : Nat} {js : List DP} {pos tpos : Pos} {op : Operator}
theorem CI : dG X (inplaceOp .Add) (kh fun i j => i + j) := lB Bx
noncomputable def lm (g : D -> D -> Option D) (i : Nat) (js : List DP) (q p : DP) : DS := fun σ => (bf σ i).bind fun t => (gz js σ).bind fun path => (cF t path).bind fun n => match n with
 | .lst true xs => (q σ).bind fun kk => match kk with
  | .int k => (ixN xs.length k).bind fun j => (xs[j]?).bind fun x => match x.sc with
   | some _ => (p σ).bind fun y => (g x y).map fun z => .nx (σ.set i (some (dO t path (.lst true (xs.set j z)))))
   | none => none
  | _ => none
 | _ => none
theorem AL (hop : dG X (inplaceOp op) g) (ho : QP X o i js) (hq : QB X a q) (he : QB X e p)
  (ha : autoParam (∀ ov iv new, augStore a ov iv new = (do holding [new, ov, iv] (setItem ov iv new); release [new, ov, iv] []; pure .next)) E6._auto_1) : QS X (.AugAssign (.Subscript o a tpos) op e pos) (lm g i js q p) [] :=
 jF (AY ho hq zl he hop.run rY ha) fun En σ H hq0 => by
  obtain ⟨F, R, σD, out, r, ec, kk⟩ := hq0;unfold lm at ec;rcases h1 : bf σD i with _ | t
  ·rw [h1] at ec; cases ec
  ·rw [h1] at ec; simp only [bind_some] at ec
   rcases h2 : gz js σD with _ | path
   ·rw [h2] at ec; cases ec
   ·rw [h2] at ec; simp only [bind_some] at ec
    rcases h3 : cF t path with _ | n
    ·rw [h3] at ec; cases ec
    ·rw [h3] at ec; simp only [bind_some] at ec
     split at ec
     ·rename_i xs
      rcases h4 : q σD with _ | ky
      ·rw [h4] at ec; cases ec
      ·rw [h4] at ec; simp only [bind_some] at ec
       split at ec
       ·rename_i k
        rcases h5 : ixN xs.length k with _ | j
        ·rw [h5] at ec; cases ec
        ·rw [h5] at ec; simp only [bind_some] at ec
         rcases h6 : xs[j]? with _ | x
         ·rw [h6] at ec; cases ec
         ·rw [h6] at ec; simp only [bind_some] at ec
          rcases h7 : x.sc with _ | xw
          ·rw [h7] at ec; cases ec
          ·rw [h7] at ec; simp only at ec
           rcases h8 : p σD with _ | y
           ·rw [h8] at ec; cases ec
           ·rw [h8] at ec; simp only [bind_some] at ec
            rcases h9 : g x y with _ | z
            ·rw [h9] at ec; cases ec
            ·rw [h9] at ec; cases ec
             obtain ⟨zw, hzw⟩ := hop.sc _ _ _ h9;obtain ⟨v0, hv0, r0⟩ := r.take (bm h1);obtain ⟨l0, vs0, lc0, hl0, hlen0, _⟩ := Rel.listAt (S := []) r0 h3;refine ⟨F, R, σD, v0, path, .ref l0, r, hv0, h2, lc0, fun F1 H1 g1 => ?_⟩;refine ⟨F1, R, σD, _, r.grow g1, h4, fun F2 H2 u g2 b2 => ?_⟩;have g3 := g1.trans g2
             -- what stands there
             have look : ∀ F' H', Grow F H F' H' -> ∃ vs, H' l0 = some (.lst vs) /\ xs.length = vs.length /\ vs[j]? = some xw /\ ∀ (d : D) (w : V), d.sc = some w -> Rel X.K F' (ay H' l0 (.lst (vs.set j w))) (σD.set i (some (dO t path (.lst true (xs.set j d))))) σ R /\ Ext F' H' F' (ay H' l0 (.lst (vs.set j w))) := fun F' H' gr => by
              obtain ⟨v1, hv1, r1⟩ := (r.grow gr).take (bm h1);rw [hv0] at hv1; cases hv1;obtain ⟨l, vs, lc, hl, hlen, _⟩ := Rel.listAt (S := []) r1 h3;have el : l0 = l := by
               have := (lc0.grow gr.k).uniq lc
               injection this
              subst el;refine ⟨vs, hl, hlen, ?_, fun d w hw => ?_⟩
              ·have hjl : j < vs.length := by rw [<- hlen]; exact (List.getElem?_eq_some_iff.mp h6).1
               obtain ⟨L, ⟨L1, L2, o1, _⟩, _⟩ := r1.front.own;obtain ⟨l', La, Lx, Lb, lc', _, ⟨vs', hl', ol'⟩, _⟩ := o1.focus h3;have el : l0 = l' := by
                have := lc.uniq lc'
                injection this
               subst el;rw [hl] at hl'; cases hl';obtain ⟨w2, e2, b2⟩ := ol'.get h6;rw [e2, b2.sc h7]
              ·have r2 : Rel X.K F' H' (σD.set i none) σ ((t, v0) :: ([(d, w)] ++ R)) := (r1.scal (d := d) hw).perm (.swap _ _ _)
               obtain ⟨l2, vs2, lc2, hl2, hlen2, upd2⟩ := r2.listAt h3;have el : l0 = l2 := by
                have := lc.uniq lc2
                injection this
               subst el;rw [hl] at hl2; cases hl2;have hj : j < xs.length := (mM h5).2.1;obtain ⟨xo, wo, pm⟩ := uz (d := d) (v := w) hlen hj;obtain ⟨r3, x3⟩ := upd2 (xs.set j d) (vs.set j w) [(xo, wo)] pm (by simp [hlen]);have r4 := (Rel.put (R := (xo, wo) :: R) r3 hv0);rw [List.set_set] at r4;exact ⟨r4.pop, x3⟩
             obtain ⟨vs, hl, hlen, hx, _⟩ := look F2 H2 g3;refine ⟨l0, vs, k, xw, rfl, b2.int, .inl (.inl hl), by unfold atI; rw [<- hlen, h5]; exact hx, ?_⟩;refine ⟨F2, R, σD, y, r.grow g3, h8, fun F3 H3 uy g4 b4 => ?_⟩;refine ⟨F3, x, y, z, zw, ⟨[], Ow.of_sc h7⟩, b4, h9, hzw, ?_⟩;obtain ⟨vs3, hl3, hlen3, _, up3⟩ := look F3 H3 (g3.trans g4);obtain ⟨r5, x5⟩ := up3 z zw hzw;refine ⟨l0, vs3, k, j, rfl, b2.int, hl3, by rw [<- hlen3]; exact h5, ?_⟩;exact kk F3 _ σ ((g3.trans g4).x.trans x5) Kp.refl r5
       ·cases ec
     ·cases ec
end
section
variable {X : Cx} {tg : Expr} {g : DG} {s : DS} {pos : Pos} {W W' : List Nat} {body : List Stmt}
end
noncomputable abbrev jZ : D -> D -> Option D := kh fun i j => i + j
noncomputable abbrev pO : D -> D -> Option D := kh fun i j => i - j
noncomputable abbrev C8 : D -> D -> Option D := kh Builtin.bitAnd
noncomputable abbrev Go : D -> D -> Option D := kh Builtin.bitOr
noncomputable abbrev pQ : D -> D -> Option D := gI (fun _ j => decide (0 < j)) fun i j => i % j
noncomputable def wm (_ j : Int) : Bool := decide (0 < j /\ j.natAbs.log2 < 9000)
noncomputable abbrev C7 : D -> D -> Option D := gI wm fun i j => i / j
theorem Eo {X : Cx} : dG X (binaryOp .FloorDiv) C7 := mG (C := fun _ j => 0 < j /\ j.natAbs.log2 < 9000) (uS fun i j _ _ _ _ _ hc q => by
 have h1 : (0 : Int) < j := hc.1;exact floordiv_int oM (by rw [Int.fdiv_eq_ediv_of_nonneg i oM]; exact q) (.inl (PyProof.noPylong_of_log2 hc.2))) fun i j h => by simpa [wm] using h
noncomputable abbrev wk : D -> D -> Option D := gI (fun i j => decide (0 <= j /\ j <= 1000000 /\ i.natAbs < 2 ^ 64)) fun i j => i ^ j.toNat
noncomputable abbrev zm : D -> D -> Option D := gI (fun i j => decide (0 <= j /\ j <= 1000000 /\ i.natAbs < 2 ^ 64)) fun i j => i * 2 ^ j.toNat
noncomputable abbrev FG : D -> D -> Option D := gI (fun _ j => decide (0 <= j)) fun i j => i / 2 ^ j.toNat
noncomputable def v4 (i j : Int) : Bool := decide ((-(2 ^ 64) < i /\ i < 2 ^ 64) \/ (-(2 ^ 64) < j /\ j < 2 ^ 64))
noncomputable abbrev gU : D -> D -> Option D := gI v4 fun i j => i * j
theorem fZ {X : Cx} : dG X (binaryOp .Mult) gU := mG CB fun i j h => by simpa [v4, CMul] using h
noncomputable abbrev tF : D -> D -> Option D := mS fun i j => decide (i < j)
noncomputable abbrev C6 : D -> D -> Option D := mS fun i j => decide (j < i)
noncomputable abbrev EU : D -> D -> Option D := mS fun i j => decide (j <= i)
noncomputable def q0 (N N' : List Str) (names : List (Str × NameKind)) (kd : Str -> Option NameKind) : Bool :=
 decide ((names.map (·.1)).Nodup) && decide (N.length <= N'.length) && names.all (fun p => p.2 != .free || kd p.1 == some .cell || kd p.1 == some .free) &&
  (List.range N.length).all fun i => match N'[i]? with
   | none => true
   | some x => match names.lookup x with
    | none => true
    | some k => k == .free && N[i]? == some x
theorem Ab {X : Cx} {N' : List Str} {scope : Scope} (hk : scope.kind = .function) (h : q0 X.N N' scope.names X.env.kindOf = true) : mr X N' scope := by
 unfold q0 at h;simp only [Bool.and_eq_true, decide_eq_true_eq] at h;obtain ⟨⟨⟨h1, h2⟩, h3⟩, h4⟩ := h;have look : ∀ i x, i < X.N.length -> N'[i]? = some x -> (∃ k, (x, k) ∈ scope.names) -> (x, NameKind.free) ∈ scope.names /\ X.N[i]? = some x := fun i x hi e hq0 => by
  obtain ⟨k, hm⟩ := hq0
  have := List.all_eq_true.mp h4 i (List.mem_range.mpr hi)
  rw [e] at this;simp only at this;rw [eF h1 hm] at this;simp only [Bool.and_eq_true, beq_iff_eq] at this;obtain ⟨e1, e2⟩ := this;subst e1;exact ⟨hm, e2⟩
 refine ⟨hk, h1, h2, fun x hx => ?_, fun i x hi e hx => (look i x hi e ⟨_, hx⟩).2, fun i x hi e hx => (look i x hi e hx).1⟩
 have := List.all_eq_true.mp h3 _ hx
 simp at this;exact this
theorem uN {X : Cx} {x : Str} {i : Int} {pos : Pos} (hg : Gl X x) (hm : ∃ t, X.mg x = some (.int i t)) (hd : autoParam ((x == ("__debug__" : Str)) = false) cx._auto_1) : QB X (.Name x pos) (pC (.int i)) := by
 obtain ⟨t, hm⟩ := hm;exact aO (uQ (v := .int i) hg hm ⟨t, rfl⟩ hd) fun σ H Q hq0 => by obtain ⟨F, R, σD, d, r, ec, k⟩ := hq0; cases ec; exact k F H _ Grow.refl ⟨[], Ow.of_sc rfl⟩
section
variable {X : Cx} {es : List Expr} {ps : List DP} {pos : Pos}
theorem OwL.ofBor {K : PySem.W.Frag} {F : Addr -> Prop} {H : Hp} : ∀ {ds : List D} {vs : List V}, BorL K F H ds vs -> ∃ L, OwL K F H ds vs L
 | [], [], _ => ⟨[], by simp only [OwL]; exact ⟨trivial, trivial⟩⟩
 | d :: ds, v :: vs, ⟨⟨L1, o⟩, r⟩ => by
  obtain ⟨L2, ol⟩ := OwL.ofBor r;exact ⟨L1 ++ L2, by simp only [OwL]; exact ⟨v, vs, L1, L2, rfl, o, ol, rfl⟩⟩
noncomputable def nB (ps : List DP) : DP := fun σ => (ld ps σ).bind fun ds => if ds.length <= sizeLine then some (.lst true ds) else none
theorem sr (h : vp X es ps) : QB X (.List es pos) (nB ps) := aO (xm h) fun σ H Q hq0 => by
 obtain ⟨F, R, σD, d, r, ec, k⟩ := hq0;unfold nB at ec;rcases h1 : ld ps σD with _ | ds
 ·rw [h1] at ec; cases ec
 ·rw [h1] at ec; simp only [bind_some] at ec
  split at ec
  ·rename_i hz
   cases ec;refine ⟨F, R, σD, ds, r, h1, fun F1 H1 vs g1 b1 => ?_⟩;obtain ⟨L, ol⟩ := OwL.ofBor b1;refine ⟨by rw [ol.length]; exact hz, fun p hp => ?_⟩;have nF : ∀ c, F1 c -> c ≠ p := fun c fc z => by
    obtain ⟨o, h⟩ := g1.dm r.g.dom c fc;rw [z, hp] at h; cases h
   have gr : Grow F1 H1 F1 (ay H1 p (.lst vs)) := ⟨fun c fc => ⟨fc, aw (nF c fc)⟩, fun c o e => by rw [aw (cv e hp)]; exact e, fun c fc => .inl fc, fun dm c fc => by rw [aw (nF c fc)]; exact dm c fc⟩;refine k F1 _ _ (g1.trans gr) ⟨p :: L, ?_⟩;simp only [Ow];exact ⟨p, vs, L, rfl, bG, ol.mono gr.x fun c hc => by
    obtain ⟨o, e⟩ := ol.dom c hc;rw [aw (cv e hp)], rfl⟩
  ·cases ec
end
theorem BC {p : DP} {σ σ' : ar} {d : D} (h : dS p σ = some (d, σ')) : p σ = some d /\ σ' = σ /\ ∃ w, d.sc = some w := by
 unfold dS at h;rcases hp : p σ with _ | x
 ·rw [hp] at h; cases h
 ·rw [hp] at h
  simp only [bind_some] at h;rcases hs : x.sc with _ | w
  ·rw [hs] at h; cases h
  ·rw [hs] at h; cases h
   exact ⟨rfl, rfl, w, hs⟩
theorem uL {X : Cx} {a b : Expr} {p q : DP} {pos : Pos} {op : CmpOp} {g : D -> D -> Option D} (o : dG X (compareOp op) g) (ha : QB X a p) (hb : QB X b q) (hm : behindInMarks op b = false) : QT X (.Compare a [op] [b] pos) (aL (dS (bh g p q))) :=
 o5 (uO o.run ha hb hm) fun σ H Q hq0 => by
  obtain ⟨F, R, σD, k, σD', r, ec, kk⟩ := hq0;obtain ⟨e1, e2, w, hw⟩ := BC (kQ ec);subst e2;show nR _ _ _ σ H _;exact yL o ⟨F, R, _, _, r, e1, fun F' H' v g' b' => ⟨k, b'.bl, kk F' H' g'.x (r.grow g')⟩⟩
section
variable {X : Cx} {e tg elt iter : Expr} {ifs : List Expr} {g : DG} {t : DT} {c : DE} {i : DI} {pos : Pos} {W : List Nat} {scope : Scope} {k : Nat}
theorem pI (N' : List Str) (hi : QI X tg iter i) (hg : ∀ cl s H fp aa, QG (cG X N' scope cl s H fp aa) tg g W) (ht : ∀ cl s H fp aa, vo (cG X N' scope cl s H fp aa) ifs t)
  (he : ∀ cl s H fp aa, QE (cG X N' scope cl s H fp aa) elt c) (hk : autoParam (N'.length - X.N.length = k) au._auto_1) (hw : autoParam ((W.all fun i => decide (X.N.length <= i)) = true) au._auto_1) (hc : autoParam (X.calm = true) au._auto_1) (hkd : autoParam (scope.kind = .function) au._auto_1) (T : autoParam (q0 X.N N' scope.names X.env.kindOf = true) au._auto_1) (hs : autoParam (∀ x, foldedSetIterable iter X.env x = pure x) li._auto_1) :
  QE X (.ListComp elt [⟨tg, iter, ifs, 0⟩] scope pos) (iJ k i g t c) := by
 subst hk;exact DY hc (Ab hkd T) hi hg ht he (fun j hj => by simpa using List.all_eq_true.mp hw j hj) hs
theorem Fu (ix : Nat) (N' : List Str) {y : Str} {py spos : Pos} (hN : X.N.Nodup) (hi : QI X tg iter i) (hg : ∀ cl s H fp aa, QG (cG X N' scope cl s H fp aa) tg g W) (ht : ∀ cl s H fp aa, vo (cG X N' scope cl s H fp aa) ifs t)
  (he : ∀ cl s H fp aa, QE (cG X N' scope cl s H fp aa) elt c) (hk : autoParam (N'.length - X.N.length = k) au._auto_1) (hw : autoParam ((W.all fun i => decide (X.N.length <= i)) = true) au._auto_1) (hc : autoParam (X.calm = true) au._auto_1) (hkd : autoParam (scope.kind = .function) au._auto_1) (T : autoParam (q0 X.N N' scope.names X.env.kindOf = true) au._auto_1)
  (hsw : autoParam (swapsWith (.ListComp elt [⟨tg, iter, ifs, 0⟩] scope pos) (some (.Name y py)) spos.line X.env = pure true) au._auto_1)
  (hiN : autoParam (X.N[ix]? = some y) au._auto_1) (hx : autoParam (o6 X.env.scope y) Ap._auto_1) (hs : autoParam (∀ x, foldedSetIterable iter X.env x = pure x) li._auto_1) (hf : autoParam (X.fn y = true \/ X.env.scope.names.lookup y = some .local) o7._auto_1) :
  QS X (.Assign [.Name y py] (.ListComp elt [⟨tg, iter, ifs, 0⟩] scope pos) spos) (bN ix (iJ k i g t c)) [ix] := by
 subst hk;exact wV ix hN hc (Ab hkd T) hi hg ht he (fun j hj => by simpa using List.all_eq_true.mp hw j hj) hsw hiN hx hs hf
end
section
variable {K : PySem.W.Frag} {F F' : Addr -> Prop} {H H' : Hp}
end
section
variable {X : Cx} {s : DS} {pos : Pos} {W' : List Nat} {body : List Stmt}
end
section
variable {X : Cx} {elt : Expr} {ifs : List Expr} {t : DT} {c : DE} {pos : Pos} {scope : Scope}
end
noncomputable def pU (P : ar -> Bool) (c c' : DE) : DE := fun σ => if P σ = true then c σ else c' σ
theorem w6 {X : Cx} {e : Expr} {c c' : DE} (P : ar -> Bool) (h : QE X e c) (h' : QE X e c') : QE X e (pU P c c') := by
 rintro aa s σ H Q I ⟨F, R, σD, d, σD', r, ec, k⟩;unfold pU at ec;split at ec
 ·exact h aa s σ H Q I ⟨F, R, σD, d, σD', r, ec, k⟩
 ·exact h' aa s σ H Q I ⟨F, R, σD, d, σD', r, ec, k⟩
theorem CL {K : PySem.W.Frag} {H : Hp} {a : Addr} {ns : List Int} {g : GF} {E : XK} (hg : ∃ d, g [.lst false (ns.map D.int)] = some (.bl true, [d])) (hS : cZ K H a (ns.map V.int)) : cP K 1 g [.ref a] H (fun v _ => v = .bl true) E := by
 obtain ⟨d, hd⟩ := hg;refine ⟨rfl, fun c => ∃ o, H c = some o, [], [.lst false (ns.map D.int)], .bl true, [d], rfl, ⟨⟨[], ?_, List.nodup_nil, fun c hc => by cases hc⟩, fun c hc => hc⟩, hd, fun F' H' v x _ g => ?_⟩
 ·have ol : ∀ ms : List Int, OwL K (fun c => ∃ o, H c = some o) H (ms.map D.int) (ms.map V.int) [] := by
   intro ms
   induction ms with
   | nil => simp only [List.map_nil, OwL]; exact ⟨trivial, trivial⟩
   | cons m ms ih => simp only [List.map_cons, OwL]; exact ⟨_, _, [], [], rfl, Ow.of_sc rfl, ih, rfl⟩
  refine ⟨[], [], ?_, rfl, rfl⟩;simp only [Ow];refine ⟨a, ns.map V.int, rfl, ?_, ol ns, trivial⟩;rcases hS with h | h
  ·refine .inl ⟨?_, h⟩
   rcases h with h | ⟨o, h⟩ <;> exact ⟨_, h⟩
  ·exact .inr fun H' => .inr h
 ·exact (g.bor (d := .bl true) (v := v) (by simp)).bl
inductive PArg where
 | bo (i : Nat) | pu (p : DP) | bp (i : Nat) (q : DP)
noncomputable def dI : List PArg -> ar -> ar -> Option (List D × ar)
 | [], _, σ => some ([], σ)
 | .bo i :: as, σ0, σ => (bf σ i).bind fun d => match d.sc with
  | some _ => (dI as σ0 σ).map fun p => (d :: p.1, p.2)
  | none => (dI as σ0 (σ.set i none)).map fun p => (d :: p.1, p.2)
 | .pu p :: as, σ0, σ => (p σ0).bind fun d => match d.sc with
  | some _ => (dI as σ0 σ).map fun p => (d :: p.1, p.2)
  | none => none
 | .bp i q :: as, σ0, σ => (bf σ i).bind fun t => (q σ0).bind fun jd => match jd with
  | .int j => match cF t [j] with
   | some (.lst true xs) => (dI as σ0 (σ.set i none)).map fun p => (.lst true xs :: p.1, p.2)
   | _ => none
  | _ => none
noncomputable def yO (σ : ar) (i : Nat) (t jd d : D) : ar := match jd with | .int j => σ.set i (some (dO t [j] d)) | _ => σ
noncomputable def d7 : List PArg -> List D -> ar -> ar -> ar
 | .bo i :: as, d :: ds, σ0, σ => match d.sc with
  | some _ => d7 as ds σ0 σ
  | none => d7 as ds σ0 (σ.set i (some d))
 | .pu _ :: as, _ :: ds, σ0, σ => d7 as ds σ0 σ
 | .bp i q :: as, d :: ds, σ0, σ => match bf σ0 i with
  | some t => match q σ0 with
   | some jd => d7 as ds σ0 (yO σ i t jd d)
   | none => d7 as ds σ0 σ
  | none => d7 as ds σ0 σ
 | _, _, _, σ => σ
noncomputable def jA (g : GF) (as : List PArg) : DE := fun σ => (dI as σ σ).bind fun q => (g q.1).map fun r => (r.1, d7 as r.2 σ q.2)
noncomputable def OkP (H : Hp) (σ : St) (σ0 : ar) : List PArg -> List V -> Prop
 | .bo i :: as, v :: vs => σ[i]? = some (some v) /\ OkP H σ σ0 as vs
 | .pu p :: as, v :: vs => (∀ d, p σ0 = some d -> ∀ w, d.sc = some w -> v = w) /\ OkP H σ σ0 as vs
 | .bp i q :: as, v :: vs => (∃ v0, σ[i]? = some (some v0) /\ ∀ j t xs, q σ0 = some (.int j) -> bf σ0 i = some t -> cF t [j] = some (.lst true xs) -> Lc H v0 [j] v) /\ OkP H σ σ0 as vs
 | [], [] => True
 | _, _ => False
noncomputable def lQ : List PArg -> ar -> Bool
 | .bo i :: as, σ => (bf σ i).isSome && lQ as σ
 | .pu p :: as, σ => (match p σ with | some _ => true | none => false) && lQ as σ
 | .bp i q :: as, σ => (match bf σ i, q σ with | some t, some (.int j) => (match cF t [j] with | some (.lst true _) => true | _ => false) | _, _ => false) && lQ as σ
 | [], _ => true
noncomputable def EM (K : PySem.W.Frag) (as : List PArg) : TA := fun σ H Q => ∃ F R σD, Rel K F H σD σ R /\ lQ as σD = true /\ ∀ F' H' vs, Grow F H F' H' -> OkP H' σ σD as vs -> Q vs H'
noncomputable def vn (X : Cx) (es : List Expr) (as : List PArg) : Prop := PA X es (EM X.K as)
section
variable {X : Cx} {e a b : Expr} {es : List Expr} {as : List PArg} {c : DE} {p q : DP} {pos : Pos}
theorem uM : vn X [] [] := fX dQ fun σ H Q ⟨F, R, σD, r, ev, k⟩ => k F H [] Grow.refl trivial
theorem wY (i : Nat) {x : Str} {pos : Pos} (hr : vn X es as) (hN : autoParam (X.N[i]? = some x) au._auto_1) (hv : autoParam (m7 X.env.scope x) qy._auto_1) (hd : autoParam ((x == ("__debug__" : Str)) = false) cx._auto_1)
  (hcd : autoParam ((x == ("__classdict__" : Str)) = false) cx._auto_1) (hs : autoParam (starEach (.Name x pos :: es) X.env = (false, eval (.Name x pos) X.env) :: starEach es X.env) au._auto_1) : vn X (.Name x pos :: es) (.bo i :: as) :=
 fX (cE (iu hN hv hd hcd) hr hs) fun σ H Q hq0 => by
  obtain ⟨F, R, σD, r, ev, k⟩ := hq0;simp only [lQ, Bool.and_eq_true, Option.isSome_iff_exists] at ev;obtain ⟨⟨d, h1⟩, ev⟩ := ev;obtain ⟨v, hv, b⟩ := r.get (bm h1);exact ⟨v, hv, F, R, σD, r, ev, fun F2 H2 vs g2 ok => k F2 H2 (v :: vs) g2 ⟨hv, ok⟩⟩
theorem wX (i : Nat) (ho : QP X a i []) (hb : QB X b q) (hr : vn X es as) (hs : autoParam (starEach (.Subscript a b pos :: es) X.env = (false, eval (.Subscript a b pos) X.env) :: starEach es X.env) au._auto_1) (hp : autoParam (i4 b) jP._auto_1) : vn X (.Subscript a b pos :: es) (.bp i q :: as) :=
 fX (cE (vP ho hb hp) hr hs) fun σ H Q hq0 => by
  obtain ⟨F, R, σD, r, ev, k⟩ := hq0;simp only [lQ, Bool.and_eq_true] at ev;obtain ⟨h1, ev⟩ := ev;rcases ht : bf σD i with _ | t
  ·rw [ht] at h1; cases h1
  ·rw [ht] at h1
   rcases hq : q σD with _ | jd
   ·rw [hq] at h1; cases h1
   ·rw [hq] at h1
    cases jd with
    | int j =>
     simp only at h1;rcases hg : cF t [j] with _ | n
     ·rw [hg] at h1; cases h1
     ·rw [hg] at h1
      cases n with
      | lst o xs =>
       cases o with
       | true =>
        obtain ⟨v0, hv0, r0⟩ := r.take (bm ht);obtain ⟨l0, vs0, lc0, hl0, _⟩ := Rel.listAt (S := []) r0 hg;refine ⟨F, R, σD, v0, [j], .ref l0, r, hv0, ?_, lc0, fun F1 H1 g1 => ?_⟩
        ·simp only [List.nil_append, gz, hq, bind_some, map_some]
        refine ⟨F1, R, σD, r.grow g1, ev, fun F2 H2 vs g2 ok => k F2 H2 (.ref l0 :: vs) (g1.trans g2) ⟨⟨v0, hv0, fun j' t' xs' e1 e2 e3 => ?_⟩, ok⟩⟩;rw [hq] at e1; cases e1;exact lc0.grow (g1.trans g2).k
       | false => cases h1
      | _ => cases h1
    | _ => cases h1
variable {K : PySem.W.Frag} {F F' : Addr -> Prop} {H H' : Hp}
theorem nj {α β : Type} : ∀ {xs : List α} {vs : List β} {k : Nat} {d : α} {v : β}, vs[k]? = some v -> (xs.set k d).zip vs = (xs.zip vs).set k (d, v)
 | [], _, _, _, _, _ => rfl
 | _ :: _, [], _, _, _, e => by simp at e
 | x :: xs, w :: vs, 0, d, v, e => by simp at e; subst e; rfl
 | x :: xs, w :: vs, k + 1, d, v, e => by simpa using nj (xs := xs) (vs := vs) (k := k) (d := d) (v := v) (by simpa using e)
theorem sv {α : Type} : ∀ {l : List α} {k : Nat} {x : α}, l[k]? = some x -> l.Perm (x :: l.eraseIdx k)
 | [], _, _, e => by simp at e
 | y :: l, 0, x, e => by simp at e; subst e; exact .refl _
 | y :: l, k + 1, x, e => ((sv (l := l) (k := k) (by simpa using e)).cons y).trans (.swap _ _ _)
theorem o8 {α β : Type} {xs : List α} {vs : List β} {k : Nat} {x : α} {v : β} (hx : xs[k]? = some x) (hv : vs[k]? = some v) : (xs.zip vs).Perm ((x, v) :: (xs.zip vs).eraseIdx k) := by
 have h : (xs.zip vs)[k]? = some (x, v) := by rw [List.getElem?_zip_eq_some]; exact ⟨hx, hv⟩
 exact sv h
theorem wz {α β : Type} {xs : List α} {vs : List β} {k : Nat} {d : α} {v : β} (hk : k < xs.length) (hv : vs[k]? = some v) : ((d, v) :: (xs.zip vs).eraseIdx k).Perm ((xs.set k d).zip vs) := by
 have h := o8 (xs := xs.set k d) (vs := vs) (k := k) (x := d) (v := v) (by simp [hk]) hv;rw [nj hv, List.eraseIdx_set_eq, <- nj hv] at h;exact h.symm
theorem Rel.outAt {σD : ar} {σ : St} {R : Ro} {t : D} {v : V} {j : Int} {xs : List D} (r : Rel K F H σD σ ((t, v) :: R)) (e : cF t [j] = some (.lst true xs)) :
  ∃ l Rem, Lc H v [j] (.ref l) /\ Rel K F H σD σ ((.lst true xs, .ref l) :: (Rem ++ R)) /\ ∀ (F' : Addr -> Prop) (H' : Hp) (σD' : ar) (σ' : St) (R' : Ro) (d : D), Ext F H F' H' -> Rel K F' H' σD' σ' ((d, .ref l) :: (Rem ++ R')) -> Rel K F' H' σD' σ' ((dO t [j] d, v) :: R') := by
 obtain ⟨l, La, Lx, Lb, lc, eL, ⟨ws, hws, olw⟩, _⟩ : ∃ l La Lx Lb, Lc H v [j] (.ref l) /\ True /\ (∃ vs, H l = some (.lst vs) /\ OwL K F H xs vs Lx) /\ La ++ Lb = La ++ Lb := by
  obtain ⟨L, ⟨L1, L2, o1, h2, rfl⟩, nd, nf⟩ := r.front.own;obtain ⟨l, La, Lx, Lb, lc, rfl, h, back⟩ := o1.focus e;exact ⟨l, La, Lx, Lb, lc, trivial, h, rfl⟩
 cases t with
 | lst ow ys =>
  simp only [cF] at e;rcases h1 : atI ys j with _ | y
  ·rw [h1] at e; cases e
  ·rw [h1] at e; simp only [bind_some] at e
   cases e;obtain ⟨k, hk, hy⟩ := ku h1;have hkl : k < ys.length := (List.getElem?_eq_some_iff.mp hy).1;cases ow with
   | true =>
    obtain ⟨a, vs, rfl, ha, hl, r1⟩ := r.openN;obtain ⟨a', vs', u, e1, e2, e3, e4⟩ := lc;cases e1;have ev : vs' = vs := by rcases e2 with q | q <;> rw [ha] at q <;> cases q; rfl
    subst ev;cases e4;have hv : vs'[k]? = some (.ref l) := by
     unfold atI at e3; rw [<- hl, hk] at e3; exact e3
    refine ⟨l, (.node a vs', .ref a) :: (ys.zip vs').eraseIdx k, ⟨a, vs', _, rfl, .inl ha, e3, rfl⟩, ?_, fun F' H' σD' σ' R' d x rr => ?_⟩
    ·refine r1.perm ?_
     refine (((o8 hy hv).append_right R).cons _).trans ?_;exact .swap _ _ _
    ·simp only [dO, hk, hy]
     have hp : ((d, V.ref l) :: ((D.node a vs', V.ref a) :: (ys.zip vs').eraseIdx k ++ R')).Perm ((D.node a vs', V.ref a) :: ((ys.set k d).zip vs' ++ R')) := by
      refine (List.Perm.swap _ _ _).trans (.cons _ ?_);exact (wz hkl hv).append_right R'
     exact (rr.perm hp).formN (by simp [hl])
   | false =>
    exfalso;obtain ⟨L, ⟨L1, L2, o1, h2, rfl⟩, nd, nf⟩ := r.front.own;obtain ⟨l, La, Lx, Lb, _, rfl, _, _⟩ := o1.focus (js := [j]) (xs := xs) (by simp only [cF, h1, bind_some]);simp only [Ow] at o1;obtain ⟨a, ws, rfl, _, _, h⟩ := o1;simp at h
 | tup ys =>
  have hft : ∃ a vs, v = .ref a /\ F a /\ H a = some (.tup vs) /\ ys.length = vs.length /\ Rel K F H σD σ (ys.zip vs ++ R) := by
   obtain ⟨L, ⟨L1, L2, o1, h2, rfl⟩, nd, nf⟩ := r.front.own;obtain ⟨l, La, Lx, Lb, _, eL, _, _⟩ := o1.focus e;simp only [Ow] at o1;obtain ⟨a, ws, rfl, ft, ol⟩ := o1;rcases ft with h | ⟨_, h⟩
   ·refine ⟨a, ws, rfl, h.1, h.2, ol.toP.1, Rel.of r.mt ⟨⟨L1 ++ L2, ?_, nd, nf⟩, r.g.dom⟩⟩
    have := ol.toP.2.append h2
    rwa [List.append_assoc]
   ·rw [h] at eL; simp at eL
  obtain ⟨a, vs2, rfl, fa, ha, hl, r1⟩ := hft;simp only [cF] at e;rcases h1 : atI ys j with _ | y
  ·rw [h1] at e; cases e
  ·rw [h1] at e; simp only [bind_some] at e
   cases e;obtain ⟨k, hk, hy⟩ := ku h1;have hkl : k < ys.length := (List.getElem?_eq_some_iff.mp hy).1;obtain ⟨a', vs', u, e1, e2, e3, e4⟩ := lc;cases e1;have ev : vs' = vs2 := by rcases e2 with q | q <;> rw [ha] at q <;> cases q; rfl
   subst ev;cases e4;have hv : vs'[k]? = some (.ref l) := by
    unfold atI at e3; rw [<- hl, hk] at e3; exact e3
   refine ⟨l, (ys.zip vs').eraseIdx k, ⟨a, vs', _, rfl, .inr ha, e3, rfl⟩, r1.perm ((o8 hy hv).append_right R), fun F' H' σD' σ' R' d x rr => ?_⟩;simp only [dO, hk, hy];have hp : ((d, V.ref l) :: ((ys.zip vs').eraseIdx k ++ R')).Perm ((ys.set k d).zip vs' ++ R') := (wz hkl hv).append_right R';have r2 := rr.perm hp;refine Rel.of r2.mt (G.formT (vs := vs') ?_ (by simp [hl]) ⟨(x a fa).1, (x a fa).2.trans ha⟩)
   have := r2.front
   rwa [List.append_assoc] at this
 | _ => simp only [cF] at e; cases e
theorem cB {α β : Type} {o : Option α} {f : α -> β} {b : β} (h : o.map f = some b) : ∃ x, o = some x /\ f x = b := by
 cases o with
 | none => cases h
 | some x => exact ⟨x, rfl, Option.some.inj h⟩
theorem jx {σ0 : ar} {σ : St} : ∀ {as : List PArg} {vs : List V} {σD : ar} {R : Ro} {ds : List D} {σD' : ar}, OkP H σ σ0 as vs -> dI as σ0 σD = some (ds, σD') -> Rel K F H σD σ R -> (∀ i, bf σD i = bf σ0 i \/ bf σD i = none) ->
  ds.length = vs.length /\ ∃ Rem, Rel K F H σD' σ (ds.zip vs ++ (Rem ++ R)) /\ ∀ (F' : Addr -> Prop) (H' : Hp) (σE : ar) (R' : Ro) (es : List D), Ext F H F' H' -> es.length = vs.length -> Rel K F' H' σE σ (es.zip vs ++ (Rem ++ R')) -> Rel K F' H' (d7 as es σ0 σE) σ R'
 | [], [], σD, R, ds, σD', _, e, r, _ => by
  simp only [dI] at e; cases e;exact ⟨rfl, [], r, fun F' H' σE R' es x hl rr => by
   cases es with
   | nil => simpa [d7] using rr
   | cons _ _ => simp at hl⟩
 | .bo i :: as, v :: vs, σD, R, ds, σD', ok, e, r, hs => by
  obtain ⟨hv, ok⟩ := ok;simp only [dI] at e;rcases h1 : bf σD i with _ | d
  ·rw [h1] at e; cases e
  ·rw [h1] at e; simp only [bind_some] at e
   obtain ⟨v', hv1, r1⟩ := r.take (bm h1);rw [hv] at hv1; cases hv1;rcases hsc : d.sc with _ | wv
   ·rw [hsc] at e
    obtain ⟨⟨ds2, σ2⟩, e2, e3⟩ := bH e;cases e3;obtain ⟨l, Rem, r2, bk⟩ := jx (R := (d, v) :: R) ok e2 r1 (fun k => by
     by_cases h : i = k
     ·subst h
      right;unfold bf;by_cases hl : i < σD.length
      ·simp [hl]
      ·simp [hl]
     ·rw [fV h]; exact hs k)
    refine ⟨by simp [l], Rem, r2.perm ?_, fun F' H' σE R' es x hl rr => ?_⟩
    ·show (ds2.zip vs ++ (Rem ++ (d, v) :: R)).Perm ((d, v) :: (ds2.zip vs ++ (Rem ++ R)))
     exact pull
    ·cases es with
     | nil => simp at hl
     | cons d1 es =>
      simp only [d7];have rr' : Rel K F' H' σE σ ((d1, v) :: (es.zip vs ++ (Rem ++ R'))) := rr;rcases hs1 : d1.sc with _ | w1
      ·exact bk F' H' _ R' es x (by simpa using hl) (rr'.put hv)
      ·exact bk F' H' _ R' es x (by simpa using hl) rr'.pop
   ·rw [hsc] at e
    obtain ⟨⟨ds2, σ2⟩, e2, e3⟩ := bH e;cases e3;have ev : v = wv := (r1.bor (by simp)).sc hsc;subst ev;obtain ⟨l, Rem, r2, bk⟩ := jx (R := R) ok e2 r hs;refine ⟨by simp [l], Rem, r2.scal hsc, fun F' H' σE R' es x hl rr => ?_⟩;cases es with
    | nil => simp at hl
    | cons d1 es =>
     simp only [d7];have rr' : Rel K F' H' σE σ ((d1, v) :: (es.zip vs ++ (Rem ++ R'))) := rr;rcases hs1 : d1.sc with _ | w1
     ·exact bk F' H' _ R' es x (by simpa using hl) (rr'.put hv)
     ·exact bk F' H' _ R' es x (by simpa using hl) rr'.pop
 | .pu p :: as, v :: vs, σD, R, ds, σD', ok, e, r, hs => by
  obtain ⟨hv, ok⟩ := ok;simp only [dI] at e;rcases h1 : p σ0 with _ | d
  ·rw [h1] at e; cases e
  ·rw [h1] at e; simp only [bind_some] at e
   rcases hsc : d.sc with _ | wv
   ·rw [hsc] at e; cases e
   ·rw [hsc] at e
    obtain ⟨⟨ds2, σ2⟩, e2, e3⟩ := bH e;cases e3;have ev : v = wv := hv d h1 wv hsc;subst ev;obtain ⟨l, Rem, r2, bk⟩ := jx (R := R) ok e2 r hs;refine ⟨by simp [l], Rem, r2.scal hsc, fun F' H' σE R' es x hl rr => ?_⟩;cases es with
    | nil => simp at hl
    | cons d1 es =>
     simp only [d7];have rr' : Rel K F' H' σE σ ((d1, v) :: (es.zip vs ++ (Rem ++ R'))) := rr;exact bk F' H' _ R' es x (by simpa using hl) rr'.pop
 | .bp i q :: as, v :: vs, σD, R, ds, σD', ok, e, r, hs => by
  obtain ⟨⟨v0, hv0, hlc⟩, ok⟩ := ok;simp only [dI] at e;rcases h1 : bf σD i with _ | t
  ·rw [h1] at e; cases e
  ·rw [h1] at e; simp only [bind_some] at e
   rcases hq : q σ0 with _ | jd
   ·rw [hq] at e; cases e
   ·rw [hq] at e; simp only [bind_some] at e
    cases jd with
    | int j =>
     simp only at e;rcases hg : cF t [j] with _ | n
     ·rw [hg] at e; cases e
     ·rw [hg] at e
      cases n with
      | lst o xs =>
       cases o with
       | true =>
        obtain ⟨⟨ds2, σ2⟩, e2, e3⟩ := bH e;cases e3;have ht0 : bf σ0 i = some t := by
         rcases hs i with h | h
         ·rw [<- h]; exact h1
         ·rw [h1] at h; cases h
        obtain ⟨v', hv1, r1⟩ := r.take (bm h1);rw [hv0] at hv1; cases hv1;obtain ⟨l, Rem1, lc, r2, join⟩ := r1.outAt hg;have ev : v = .ref l := (hlc j t xs hq ht0 hg).uniq lc;subst ev;obtain ⟨ll, Rem, r3, bk⟩ := jx (R := (.lst true xs, .ref l) :: (Rem1 ++ R)) ok e2 r2 (fun k => by
         by_cases h : i = k
         ·subst h
          right;unfold bf;by_cases hl : i < σD.length
          ·simp [hl]
          ·simp [hl]
         ·rw [fV h]; exact hs k)
        refine ⟨by simp [ll], Rem ++ Rem1, r3.perm ?_, fun F' H' σE R' es x hl rr => ?_⟩
        ·show (ds2.zip vs ++ (Rem ++ (D.lst true xs, V.ref l) :: (Rem1 ++ R))).Perm ((D.lst true xs, V.ref l) :: (ds2.zip vs ++ ((Rem ++ Rem1) ++ R)))
         rw [List.append_assoc];exact pull
        ·cases es with
         | nil => simp at hl
         | cons d1 es =>
          simp only [d7, ht0, hq, yO];have rr' : Rel K F' H' σE σ ((d1, .ref l) :: (Rem1 ++ (es.zip vs ++ (Rem ++ R')))) := rr.perm (by
           show ((d1, V.ref l) :: (es.zip vs ++ (Rem ++ Rem1 ++ R'))).Perm _;refine .cons _ ?_;have h3 : es.zip vs ++ (Rem ++ Rem1 ++ R') = (es.zip vs ++ Rem) ++ (Rem1 ++ R') := by simp
           have h4 : Rem1 ++ (es.zip vs ++ (Rem ++ R')) = Rem1 ++ ((es.zip vs ++ Rem) ++ R') := by simp
           rw [h3, h4];exact List.perm_append_comm_assoc _ _ _)
          have r4 := join F' H' σE σ (es.zip vs ++ (Rem ++ R')) d1 x rr';exact bk F' H' _ R' es x (by simpa using hl) (r4.put hv0)
       | false => cases e
      | _ => cases e
    | _ => cases e
theorem OkP.length {σ0 : ar} {σ : St} : ∀ {as : List PArg} {vs : List V}, OkP H σ σ0 as vs -> vs.length = as.length := by
 intro as
 induction as with
 | nil =>
  intro vs h;cases vs with
  | nil => rfl
  | cons _ _ => exact h.elim
 | cons a as ih =>
  intro vs h;cases vs with
  | nil => cases a <;> exact h.elim
  | cons v vs => cases a <;> exact congrArg (· + 1) (ih h.2)
theorem lP {σ0 : ar} : ∀ {as : List PArg} {σD : ar} {r : List D × ar}, dI as σ0 σD = some r -> (∀ i, bf σD i = bf σ0 i \/ bf σD i = none) -> lQ as σ0 = true
 | [], _, _, _, _ => rfl
 | .bo i :: as, σD, r, e, hs => by
  simp only [dI] at e;rcases h1 : bf σD i with _ | d
  ·rw [h1] at e; cases e
  ·rw [h1] at e; simp only [bind_some] at e
   have ht0 : bf σ0 i = some d := by
    rcases hs i with h | h
    ·rw [<- h]; exact h1
    ·rw [h1] at h; cases h
   rcases hsc : d.sc with _ | wv
   ·rw [hsc] at e
    obtain ⟨p, e2, _⟩ := cB e;simp only [lQ, ht0, Option.isSome_some, Bool.true_and];exact lP e2 (fun k => by
     by_cases h : i = k
     ·subst h
      right;unfold bf;by_cases hl : i < σD.length
      ·simp [hl]
      ·simp [hl]
     ·rw [fV h]; exact hs k)
   ·rw [hsc] at e
    obtain ⟨p, e2, _⟩ := cB e;simp only [lQ, ht0, Option.isSome_some, Bool.true_and];exact lP e2 hs
 | .pu p :: as, σD, r, e, hs => by
  simp only [dI] at e;rcases h1 : p σ0 with _ | d
  ·rw [h1] at e; cases e
  ·rw [h1] at e; simp only [bind_some] at e
   rcases hsc : d.sc with _ | wv
   ·rw [hsc] at e; cases e
   ·rw [hsc] at e
    obtain ⟨q, e2, _⟩ := cB e;simp only [lQ, h1, Bool.true_and];exact lP e2 hs
 | .bp i q :: as, σD, r, e, hs => by
  simp only [dI] at e;rcases h1 : bf σD i with _ | t
  ·rw [h1] at e; cases e
  ·rw [h1] at e; simp only [bind_some] at e
   have ht0 : bf σ0 i = some t := by
    rcases hs i with h | h
    ·rw [<- h]; exact h1
    ·rw [h1] at h; cases h
   rcases hq : q σ0 with _ | jd
   ·rw [hq] at e; cases e
   ·rw [hq] at e; simp only [bind_some] at e
    cases jd with
    | int j =>
     simp only at e;rcases hg : cF t [j] with _ | n
     ·rw [hg] at e; cases e
     ·rw [hg] at e
      cases n with
      | lst o xs =>
       cases o with
       | true =>
        obtain ⟨p, e2, _⟩ := cB e;simp only [lQ, ht0, hq, hg, Bool.true_and];exact lP e2 (fun k => by
         by_cases h : i = k
         ·subst h
          right;unfold bf;by_cases hl : i < σD.length
          ·simp [hl]
          ·simp [hl]
         ·rw [fV h]; exact hs k)
       | false => cases e
      | _ => cases e
    | _ => cases e
theorem B8 {n : Nat} {g : GF} {E : XK} {σ : St} {H : Hp} {Q : VK} (hn : as.length = n) (h : rE K (jA g as) σ H Q) : vH (cP K n g) [] E (EM K as) σ H Q := by
 obtain ⟨F, R, σD, d, σD', r, ec, k⟩ := h;unfold jA at ec;rcases h2 : dI as σD σD with _ | ⟨ds, σ2⟩
 ·rw [h2] at ec; cases ec
 ·rw [h2] at ec; simp only [bind_some] at ec
  obtain ⟨⟨d', ds'⟩, e2, e3⟩ := bH ec;cases e3;refine ⟨F, R, σD, r, lP h2 (fun _ => .inl rfl), fun F1 H1 vs g1 ok => ?_⟩;obtain ⟨l, Rem, r2, bk⟩ := jx (R := R) ok h2 (r.grow g1) (fun _ => .inl rfl);have lv : vs.length = n := by rw [<- hn]; exact ok.length
  refine ⟨by simpa using lv, F1, sl σ2 σ ++ (Rem ++ R), ds, _, ds', by simpa using l, ?_, e2, fun F2 H2 v x2 l2 g2 => ?_⟩
  ·rw [List.append_nil]
   exact r2.g.perm (List.perm_append_comm_assoc _ _ _)
  ·refine k F2 H2 v (g1.x.trans x2) ?_
   rw [List.append_nil] at l2 g2;refine bk F2 H2 σ2 ((_, v) :: R) ds' x2 l2 ⟨r2.mt, g2.perm ?_⟩;have p1 : (sl σ2 σ ++ (ds'.zip vs ++ (Rem ++ (d', v) :: R))).Perm ((d', v) :: (sl σ2 σ ++ (ds'.zip vs ++ (Rem ++ R)))) := by
    have h5 : sl σ2 σ ++ (ds'.zip vs ++ (Rem ++ (d', v) :: R)) = (sl σ2 σ ++ ds'.zip vs) ++ (Rem ++ (d', v) :: R) := by simp
    have h6 : sl σ2 σ ++ (ds'.zip vs ++ (Rem ++ R)) = (sl σ2 σ ++ ds'.zip vs) ++ (Rem ++ R) := by simp
    rw [h5, h6];exact pull
   exact (p1.trans ((List.perm_append_comm_assoc _ _ _).cons _)).symm
theorem so {k : Nat} {f : Addr} {fd : FuncData} {ps : List Str} {g : GF} {x : Str} {p pos : Pos} (F : bY X.prog X.w X.K X.mg X.base cN k f fd ps (cP X.K ps.length g)) (hr : Room k X.A) (hg : Gl X x) (hm : X.mg x = some (.ref f)) (hk : keepIn X.K (.ref f) = true) (hb : Binds X.K fd ps [])
  (ha : vn X (e :: es) as) (hn : autoParam (as.length = ps.length) au._auto_1) (hdb : autoParam ((x == ("__debug__" : Str)) = false) cx._auto_1) (he : autoParam (starEach (e :: es) X.env = (false, eval e X.env) :: starEach es X.env) au._auto_1) (hpl : autoParam ((backTo pos (starEach es X.env)).any (·.1) = false) au._auto_1) :
  QE X (.Call (.Name x p) (e :: es) [] pos) (jA g as) := aO (uR (E := E0) F hr hg hm hk hb .nil zR ha hdb he hpl) fun _ _ _ h => B8 hn h
noncomputable def nC (i : Nat) (q : DP) (σ : ar) : Bool := match bf σ i with
 | some t => match q σ with
  | some (.int j) => match cF t [j] with | some (.lst true _) => true | _ => false
  | _ => false
 | _ => false
end
section
variable {X : Cx} {e o a b : Expr} {es : List Expr} {p q : DP} {c c' : DE} {pos apos cpos : Pos} {i : Nat} {js : List DP}
theorem vO {h : Heap} : ∀ {vs : List Value} {ps : List PyData} {as : List Addr}, ReadsAll h vs ps as -> ∀ v ∈ vs, ∃ p as', p ∈ ps /\ Reads h v p as' := by
 intro vs
 induction vs with
 | nil => intro ps as h v hv; cases hv
 | cons v vs ih =>
  intro ps as h v hv;cases h with
  | cons r rs =>
   rcases List.mem_cons.mp hv with rfl | hv
   ·exact ⟨_, _, List.mem_cons_self, r⟩
   ·obtain ⟨p, as', hp, h⟩ := ih rs v hv
    exact ⟨p, as', List.mem_cons_of_mem _ hp, h⟩
end
section
variable {X : Cx} {e o a b : Expr} {es : List Expr} {p q : DP} {c c' : DE} {pos apos cpos : Pos} {i : Nat} {js : List DP}
noncomputable def mP : List D -> Option (List Bool)
 | [] => some []
 | .bl b :: xs => (mP xs).map fun r => b :: r
 | _ => none
theorem qk : ∀ {xs : List D} {bs : List Bool}, mP xs = some bs -> xs = bs.map D.bl
 | [], _, h => by cases h; rfl
 | x :: xs, bs, h => by
  cases x <;> simp only [mP] at h <;> first | cases h | skip
  obtain ⟨r, h1, e⟩ := cB h;subst e;rw [qk h1]; rfl
theorem OwL.bls {K : PySem.W.Frag} {F : Addr -> Prop} {H : Hp} : ∀ {bs : List Bool} {vs : List V} {L : List Addr}, OwL K F H (bs.map D.bl) vs L -> vs = bs.map V.bl
 | [], _, _, h => by simp only [List.map_nil, OwL] at h; exact h.1
 | b :: bs, _, _, h => by
  simp only [List.map_cons, OwL] at h;obtain ⟨v, ws, L1, L2, rfl, h1, h2, rfl⟩ := h;rw [h2.bls, (h1.sc (d := .bl b) rfl).1]; rfl
theorem uB : ∀ {bs : List Bool} {us : List Value}, Vals (bs.map V.bl) us -> us = bs.map Value.bool
 | [], _, .nil => rfl
 | b :: bs, _, .cons h t => by rw [show _ = Value.bool b from h, uB t]; rfl
noncomputable def pX : List D -> Option D
 | [.lst _ xs] => (mP xs).map fun bs => .bl (bs.all id)
 | _ => none
theorem EF (hc : X.calm = true) : fN X (.builtin "all") pX := by
 refine ⟨fun aa s σ H vs us Q I rv pz => ?_, fun ds d h => ?_⟩
 ·obtain ⟨F, ds, d, w, b, eg, hw, q⟩ := pz
  unfold pX at eg;split at eg
  ·rename_i own xs
   obtain ⟨bs, hbs, e⟩ := cB eg;subst e; cases hw;have ex := qk hbs;subst ex;obtain ⟨v, rfl, bv⟩ := b.one;obtain ⟨a, ws, rfl, sq, L, ol⟩ := bv.lst;obtain ⟨u, rfl, ru⟩ := iL rv;cases ru;obtain ⟨its, r, pl, _⟩ := I.list sq;rw [ol.bls] at r;have hits := uB r;subst hits;have hl := pl.isList;have hlt : a < s.heap.objs.size := by obtain ⟨_, e, _⟩ := hl; exact Heap.lt_size e
   refine call_all_walk (wpAny_pyIter_list hl ⟨_, _, _, _, _, _, fun i => bs.getD i true, rfl, Walks.list (A := X.A.in1) (I.ok.hd hc) _ a (Nat.ne_of_lt hlt) (bs.map Value.bool).toArray, ⟨⟨_, Heap.get?_push_size _ rfl, rfl, rfl⟩, hl.push _⟩, ?_, fun h' tk hk => ?_⟩)
   ·intro i v s2 Q2 E2 hP hQ
    have : v = .bool (bs.getD i true) := by
     simp only [List.getElem?_toArray, List.getElem?_map, Option.map_eq_some_iff] at hP;obtain ⟨b', hb, rfl⟩ := hP;simp [hb]
    subst this;exact wpAny_truthy_bool hQ
   ·refine ⟨.bl (bs.all id), H, I.kept (old_kept hk), ?_, q⟩
    have e : (List.range (bs.map Value.bool).toArray.size).all (fun i => bs.getD i true) = bs.all id := by
     rw [Bool.eq_iff_iff, List.all_eq_true, List.all_eq_true];constructor
     ·intro h x hx
      obtain ⟨i, hi, rfl⟩ := List.getElem_of_mem hx
      have := h i (by simp [hi])
      simpa [hi] using this
     ·intro h i hi
      have hi' : i < bs.length := by simpa using hi
      have := h bs[i] (List.getElem_mem hi')
      simpa [hi'] using this
    rw [e]; rfl
  ·cases eg
 ·unfold pX at h
  split at h
  ·obtain ⟨bs, _, e⟩ := cB h
   subst e; exact ⟨_, rfl⟩
  ·cases h
theorem Rel.scs {K : PySem.W.Frag} {F : Addr -> Prop} {H : Hp} {σD : ar} {σ : St} {R : Ro} : ∀ {xs : List D} {vs : List V} {L : List Addr}, gi xs = true -> OwL K F H xs vs L -> Rel K F H σD σ R -> Rel K F H σD σ (xs.zip vs ++ R)
 | [], _, _, _, _, r => by simpa using r
 | x :: xs, _, _, h, o, r => by
  simp only [OwL] at o;obtain ⟨v, ws, L1, L2, rfl, h1, h2, rfl⟩ := o;unfold gi at h;rw [List.all_cons, Bool.and_eq_true, Option.isSome_iff_exists] at h;obtain ⟨⟨w, hw⟩, ht⟩ := h;have r2 := Rel.scs (xs := xs) ht h2 r;have hv := (h1.sc hw).1;subst hv;exact r2.scal hw
noncomputable def lT (p : DP) : DE := fun σ => (p σ).bind fun d => match d with
 | .lst _ xs => if gi xs = true then some (.lst true xs, σ) else none
 | _ => none
theorem wr : CallR X (.type "list") (fun vs H Q => ∃ a xs, vs = [.ref a] /\ cZ X.K H a xs /\ ∀ p, H p = none -> Q (.ref p) (ay H p (.lst xs))) := by
 rintro aa s σ H vs us Q I rv ⟨a, xs, e, sq, q⟩;subst e;obtain ⟨u, rfl, ru⟩ := iL rv;cases ru;obtain ⟨its, r, ⟨o, n, hg, hc, hsl, hd⟩, hz⟩ := I.list sq;refine call_list_seq a (.inl rfl) hg hc hd (fun h' c' hk hn => ?_) (by rw [List.size_toArray, <- r.length]; exact hz);exact ⟨.ref s.heap.objs.size, _, I.laid (o := .lst xs) hk (Nat.le_refl _) ⟨hz, its, c', r, hn⟩, rfl, q _ I.fresh⟩
theorem yN {x : Str} {p1 pos : Pos} (hg : Gl X x) (hm : X.mg x = none) (hv : bootBuiltins x = some (.type "list")) (ha : QB X e p) (hn : autoParam (x ≠ "__name__") cx._auto_1) (hdb : autoParam ((x == ("__debug__" : Str)) = false) cx._auto_1)
  (he : autoParam (starEach [e] X.env = (false, eval e X.env) :: starEach [] X.env) au._auto_1) (hpl : autoParam ((backTo pos (starEach [] X.env)).any (·.1) = false) au._auto_1) : QE X (.Call (.Name x p1) [e] [] pos) (lT p) :=
 aO (lA wr hg hm hv (cE ha dQ he) hn hdb he hpl) fun σ H Q hq0 => by
  obtain ⟨F, R, σD, d, σD', r, ec, k⟩ := hq0;unfold lT at ec;rcases h1 : p σD with _ | x
  ·rw [h1] at ec; cases ec
  ·rw [h1] at ec; simp only [bind_some] at ec
   split at ec
   ·rename_i o xs
    split at ec
    ·rename_i hs
     cases ec;refine ⟨F, R, σD, _, r, h1, fun F1 H1 v g1 b1 => ?_⟩;obtain ⟨a, ws, rfl, sq, L, ol⟩ := b1.lst;refine ⟨a, ws, rfl, sq, fun p hp => ?_⟩;have r2 := Rel.scs hs ol (r.grow g1);obtain ⟨r3, x3⟩ := r2.layL ol.toP.1 hp;exact k F1 _ _ (g1.x.trans x3) r3
    ·cases ec
   ·cases ec
end
end DD
namespace DD
open PySem PySem.Spec PySem.Calls PyProof.Rows L2 PySem.W PySem.Builtin PySem.Builtin.Str
theorem Rel.dropA {K : PySem.W.Frag} {F : Addr -> Prop} {H : Hp} {σD : ar} {σ : St} {R : Ro} : ∀ {S : Ro}, Rel K F H σD σ (S ++ R) -> Rel K F H σD σ R
 | [], r => r
 | _ :: S, r => Rel.dropA (S := S) (Rel.pop (R := S ++ R) r)
section
variable {X : Cx} {apos cpos : Pos}
end
end DD
namespace DD
open PySem PySem.Spec PyProof.Rows L2
section
variable {X : Cx} {e o a b : Expr} {es : List Expr} {p q : DP} {c c' : DE} {pos apos cpos : Pos} {i : Nat} {js : List DP}
noncomputable def va (x y : D) : Option Bool := x.py.bind fun q => y.py.bind fun p => match p with
 | .list ps => if (ps.all fun r => kJ r q) = true then some (ps.any fun r => PyData.eqv r q) else none
 | _ => none
noncomputable def z9 (x y : D) : Option D := (va x y).map .bl
theorem t0 {h : Heap} {q : PyData} {e : Value -> Bool} (he : ∀ v p as, Reads h v p as -> e v = PyData.eqv p q) : ∀ {vs : List Value} {ps : List PyData} {as : List Addr}, ReadsAll h vs ps as -> vs.any e = ps.any fun r => PyData.eqv r q
 | _, _, _, .nil => rfl
 | _, _, _, .cons r rs => by rw [List.any_cons, List.any_cons, t0 he rs, he _ _ _ r]
theorem zi {x y : D} {t : Bool} (h : va x y = some t) : ∃ q ps, x.py = some q /\ y.py = some (.list ps) /\ (∀ r ∈ ps, r.canLay0 = true /\ q.canLay0 = true /\ min r.depth q.depth <= 50) /\ t = ps.any fun r => PyData.eqv r q := by
 unfold va at h;rcases h1 : x.py with _ | p
 ·rw [h1] at h; cases h
 ·rw [h1] at h; simp only [bind_some] at h
  rcases h2 : y.py with _ | q
  ·rw [h2] at h; cases h
  ·rw [h2] at h; simp only [bind_some] at h
   split at h
   ·rename_i ps
    split at h
    ·rename_i hk
     cases h;refine ⟨p, ps, rfl, rfl, fun r hr => ?_, rfl⟩
     have := List.all_eq_true.mp hk r hr
     simp only [kJ, Bool.and_eq_true, decide_eq_true_eq] at this;exact ⟨this.1.1, this.1.2, this.2⟩
    ·cases h
   ·cases h
theorem Bz {aa : List (Addr × Obj)} {s : Shared} {σ : St} {H : Hp} {F : Addr -> Prop} {dx dy : D} {x y : V} {v u : Value} {t : Bool} (hu : X.A.units + 64 < cLine) (I : L2.Inv X aa σ H s) (b1 : Bor X.K F H dx x) (b2 : Bor X.K F H dy y)
  (rx : RelV x v) (ry : RelV y u) (h : va dx dy = some t) : ∃ l items, u = .ref l /\ s.heap.IsList l items /\ ∃ e : Value -> Bool, (∀ z ∈ items, SeqAt.EqAt X.A.in1 s z v (e z)) /\ items.any e = t := by
 obtain ⟨r, ps, e1, e2, hok, rfl⟩ := zi h;obtain ⟨as, ra⟩ := b1.reads I e1 rx;obtain ⟨bs, rb⟩ := b2.reads I e2 ry;cases rb with
 | @list a o items n xs as' hg hc hdt rall =>
  classical
  refine ⟨a, items, rfl, ⟨o, hg, hc, n, hdt⟩, fun z => decide (∃ p as, Reads s.heap z p as /\ PyData.eqv p r = true), fun z hz => ?_, ?_⟩
  ·obtain ⟨pz, az, hpz, rz⟩ := vO rall z (by simpa using hz)
   obtain ⟨k1, k2, k3⟩ := hok pz hpz;have hd : decide (∃ p as, Reads s.heap z p as /\ PyData.eqv p r = true) = PyData.eqv pz r := by
    rcases he : PyData.eqv pz r with _ | _
    ·refine decide_eq_false ?_
     rintro ⟨p', as', r', e'⟩
     have := (PySem.SeqAt.Reads.unique pz p' z az as' k1 rz r')
     rw [<- this, he] at e'; cases e'
    ·exact decide_eq_true ⟨pz, az, rz, he⟩
   dsimp only;rw [hd];exact PySem.SeqAt.eqAt_reads pz r _ s z v az as rz ra k1 k2 (by
    simp only [Around.in1_units];omega)
  ·have hc := t0 (q := r) (e := fun z => decide (∃ p as, Reads s.heap z p as /\ PyData.eqv p r = true)) (h := s.heap) (vs := items.toList) (ps := ps) ?_ rall
   ·rw [<- hc]; simp
   ·intro v p as rv
    rcases he : PyData.eqv p r with _ | _
    ·refine decide_eq_false ?_
     rintro ⟨p', as', r', e'⟩
     have := (PySem.Reads.unique rv p' as' r').1
     rw [<- this, he] at e'; cases e'
    ·exact decide_eq_true ⟨p, as, rv, he⟩
theorem Ft (hu : X.A.units + 64 < cLine) : dG X (compareOp .In) z9 := by
 refine ⟨fun aa s σ H x y v u Q I rx ry pz => ?_, fun x y d h => ?_⟩
 ·obtain ⟨F, dx, dy, d, w, b1, b2, eg, hw, q⟩ := pz
  obtain ⟨t, et, rfl⟩ := cB eg;cases hw;obtain ⟨l, items, rfl, hl, e, he, rfl⟩ := Bz hu I b1 b2 rx ry et;exact SeqAt.in_listAt e hl he ⟨.bl _, H, I, rfl, q⟩
 ·obtain ⟨t, _, rfl⟩ := cB h
  exact ⟨_, rfl⟩
end
theorem qr {K : PySem.W.Frag} {F : Addr -> Prop} {H : Hp} : ∀ {xs : List D} {vs : List V} {L : List Addr}, gi xs = true -> OwL K F H xs vs L -> L = []
 | [], _, _, _, o => by simp only [OwL] at o; exact o.2
 | x :: xs, _, _, h, o => by
  simp only [OwL] at o;obtain ⟨v, ws, L1, L2, rfl, h1, h2, rfl⟩ := o;unfold gi at h;rw [List.all_cons, Bool.and_eq_true, Option.isSome_iff_exists] at h;obtain ⟨⟨w, hw⟩, ht⟩ := h;rw [qr (xs := xs) ht h2, (h1.sc hw).2]; rfl
noncomputable def tN (p : DP) (pl ph : Option DP) : DE := fun σ => (p σ).bind fun d => match d with
 | .lst _ xs => if gi xs = true then (kj pl σ).bind fun l => (kj ph σ).map fun h => (.lst true (jB xs l h), σ) else none
 | _ => none
section
variable {X : Cx} {e a b : Expr} {lo hi : Option Expr} {pl ph : Option DP} {p q : DP} {c c' : DE} {pos p2 : Pos} {i : Nat}
theorem Cc (he : QB X e p) (hl : QO X lo pl) (hh : QO X hi ph) : QE X (.Subscript e (.Slice lo hi none p2) pos) (tN p pl ph) := aO (sw AC he hl hh) fun σ H Q hq0 => by
 obtain ⟨F, R, σD, d, σD', r, ec, k⟩ := hq0;unfold tN at ec;rcases h1 : p σD with _ | t
 ·rw [h1] at ec; cases ec
 ·rw [h1] at ec; simp only [bind_some] at ec
  refine ⟨F, R, σD, t, r, h1, fun F1 H1 v g1 b1 => ?_⟩;split at ec
  ·rename_i own xs
   split at ec
   ·rename_i hs
    rcases h2 : kj pl σD with _ | l
    ·rw [h2] at ec; cases ec
    ·rw [h2] at ec; simp only [bind_some] at ec
     obtain ⟨h, h3, e3⟩ := bH ec;cases e3;refine ⟨F1, _, _, l, r.grow g1, h2, fun F2 H2 g2 => ?_⟩;refine ⟨F2, _, _, h, (r.grow g1).grow g2, h3, fun F3 H3 g3 => ?_⟩;have r3 := ((r.grow g1).grow g2).grow g3;obtain ⟨a, vs, rfl, sq, L, ol⟩ := ((b1.grow g2).grow g3).lst;refine ⟨a, vs, rfl, sq, fun pp hp => ?_⟩;have hL := qr hs ol;subst hL;have oc : OwL X.K F3 H3 (jB xs l h) (pW vs l h) [] := by
      unfold jB pW;rw [<- ol.length];exact (ol.drop).take
     obtain ⟨r5, x5⟩ := (Rel.pushL oc r3).layL oc.length.symm hp;exact k F3 _ _ ((g1.x.trans (g2.x.trans g3.x)).trans x5) r5
   ·cases ec
  ·cases ec
end
theorem nJ {F1 : Addr -> Prop} {H1 : Hp} {p : Addr} {us : List V} (dm : ∀ a, F1 a -> ∃ o, H1 a = some o) (hp : H1 p = none) : Grow F1 H1 (fun c => F1 c \/ c = p) (ay H1 p (.tup us)) := by
 have nF : ∀ c, F1 c -> c ≠ p := fun c fc z => by obtain ⟨o, h⟩ := dm c fc; rw [z, hp] at h; cases h
 refine ⟨fun c fc => ⟨.inl fc, aw (nF c fc)⟩, fun c o e => by rw [aw (cv e hp)]; exact e, fun c fc => ?_, fun _ c fc => ?_⟩
 ·rcases fc with fc | fc
  ·exact .inl fc
  ·exact .inr (fc ▸ hp)
 ·rcases fc with fc | fc
  ·rw [aw (nF c fc)]; exact dm c fc
  ·subst fc; exact ⟨_, bG⟩
section
variable {X : Cx} {e tg elt iter : Expr} {ifs : List Expr} {g : DG} {t : DT} {c : DE} {i : DI} {pos : Pos} {W : List Nat} {N' : List Str} {scope : Scope}
end
section
variable {X : Cx} {elt tg : Expr} {ifs : List Expr} {g : DG} {t : DT} {c : DE} {pos : Pos} {W : List Nat} {scope : Scope} {k : Nat} {elts : List Expr} {x1 : Nat} {tpos p1 pos1 npos npos2 : Pos}
end
section
variable {X : Cx} {a b : Expr} {c : DE} {p q : DP} {pos : Pos}
end
end DD
namespace L2
open PySem PySem.Spec PyProof.Rows
noncomputable def Ao (K : PySem.W.Frag) (a : Addr) (n0 : Nat) : It :=
 ⟨fun i H => ∃ xs x, cZ K H a xs /\ xs[i]? = some x,
  fun i H x H' => ∃ p u, (∀ xs, cZ K H a xs -> xs[i]? = some u) /\ H p = none /\ H' = ay H p (.tup [.int ((n0 + i : Nat) : Int), u]) /\ x = .ref p,
  fun i H => ∃ xs, cZ K H a xs /\ xs.length = i⟩
theorem qi {prog : Program} {w : World} {A : Around} (hh : A.handled = none) (it l : Addr) (hne : l ≠ it) (items : Array Value) (n0 : Nat) :
  Draws prog w A it [it, l] (n0 + items.size) (fun i v => n0 <= i /\ items[i - n0]? = some v) (fun i h => n0 <= i /\ h.IsListIter it l (i - n0) /\ h.IsList l items) where
 live := fun _ _ q => by obtain ⟨o, ho, _⟩ := q.2.1; exact ⟨o, ho⟩
 frame := fun _ _ _ q hk => ⟨q.1, q.2.1.at fun o e => hk it (by simp) o e, q.2.2.at fun o e => hk l (by simp) o e⟩
 item := fun i s Q E hi q hQ => by
  have hl : i - n0 < items.size := by have := q.1; omega
  refine wpAny_nextOf_list_item q.2.1 q.2.2 (x := items[i - n0]) (by simp [hl]) fun h' hit' hs' => ?_
  refine hQ _ h' s.toks ⟨q.1, by simp [hl]⟩ ⟨Nat.le_succ_of_le q.1, ?_, q.2.2.extBut hs'.extBut hne⟩ hs';rw [show i + 1 - n0 = i - n0 + 1 by have := q.1; omega];exact hit'
 done := fun s Q E q hE => wpAny_nextOf_list_end hh q.2.1 q.2.2 (by simp) hE
theorem wG {P : Program} {w : World} {K : PySem.W.Frag} {elts : List Expr} {x1 : Nat} {tpos : Pos} (a z it : Addr) (n0 : Nat) (D : z ≠ it) :
  mi P w K (.Tuple elts x1 tpos) (Ao K a n0) [z, it] z (fun i h => (∃ old, IsEnum h z it ((n0 + i : Nat) : Int) old) /\ h.IsListIter it a i) where
 mem := by simp
 obj := fun i h hq0 c hc => by
  obtain ⟨⟨old, hz⟩, ⟨o1, e1, c1, d1⟩⟩ := hq0;simp only [List.mem_cons, List.not_mem_nil, or_false] at hc;rcases hc with rfl | rfl
  ·exact ⟨_, hz, fun v z => nomatch z⟩
  ·exact ⟨_, e1, fun v z => by rw [d1] at z; cases z⟩
 keep := fun i h h' ⟨⟨old, hz⟩, h1⟩ k => ⟨⟨old, k z (by simp) _ hz⟩, h1.at fun o e => k it (by simp) o e⟩
 item := by
  rintro X hP hw hK hc i aa s σ H E I hf ⟨⟨old, hz⟩, h1⟩ ⟨xs, x, hq, hx⟩;subst hP hw hK;obtain ⟨its, rv, p1, _⟩ := I.list hq;obtain ⟨u, hu, ru⟩ := rv.get hx;have na : a ≠ z := dR I hq (hf z (by simp)) ⟨_, hz, by simp⟩;have nb : a ≠ it := dR I hq (hf it (by simp)) (by obtain ⟨o1, e1, c1, d1⟩ := id h1; exact ⟨_, e1, by rw [c1]; simp⟩);have hil : i < its.length := (List.getElem?_eq_some_iff.mp hu).1;refine wpAny_pyNext_enum_itemD (qi (A := X.A.in1) (I.ok.hd hc) it a nb its.toArray n0) hz ⟨Nat.le_add_right _ _, by rw [Nat.add_sub_cancel_left]; exact h1, p1.isList⟩ (by simp [hil]) D (by simp [D, na.symm]) fun v h' tk hv ho hst hT hsz hk => ?_
  have ev : v = u := by
   have h2 := hv.2;rw [Nat.add_sub_cancel_left] at h2;simp only [List.getElem?_toArray] at h2;rw [hu] at h2; exact (Option.some.inj h2).symm
  subst ev;have hf2 : ∀ c ∈ [z, it], eJ X aa H c := fun c hc => hf c hc
  have hk' : ∀ c o, c ∉ [z, it] -> s.heap.get? c = some o -> h'.get? c = some o := fun c o hc e => hk c o (fun q => hc (by simp [q])) (fun q => hc (by simp [q])) e
  have I0 : Inv X aa σ (ay H s.heap.objs.size (.tup [.int ((n0 + i : Nat) : Int), x])) { s with heap := h' } := I.turnT hf2 (u := .int ((n0 + i : Nat) : Int)) ⟨tk, rfl⟩ ru hk' hT (fun c hc => by
   obtain ⟨o1, e1, _⟩ := id hst.2.1;simp only [List.mem_cons, List.not_mem_nil, or_false] at hc;rcases hc with rfl | rfl
   ·exact ⟨_, ho⟩
   ·exact ⟨_, e1⟩)
  have I1 : Inv X aa σ (ay H s.heap.objs.size (.tup [.int ((n0 + i : Nat) : Int), x])) { s with heap := h', toks := tk + 1 } := I0.kept (t' := tk + 1) (fun _ _ e => e);have hfr : H s.heap.objs.size = none := I.fresh;refine ⟨_, rfl, wpAny_letOwnedTupleGo_enum (s := { s with heap := h', toks := tk + 1 }) ho fun h'' z1 sb => ?_⟩;have hf5 : ∀ c ∈ [z, it], (ay H s.heap.objs.size (.tup [.int ((n0 + i : Nat) : Int), x])) c = none := fun c hc => by
   have lt : c < s.heap.objs.size := by
    obtain ⟨o1, e1, _⟩ := id h1;simp only [List.mem_cons, List.not_mem_nil, or_false] at hc;rcases hc with rfl | rfl
    ·exact Heap.lt_size hz
    ·exact Heap.lt_size e1
   rw [aw (Nat.ne_of_lt lt)]; exact (hf c hc).1
  have I2 : Inv X aa σ (ay H s.heap.objs.size (.tup [.int ((n0 + i : Nat) : Int), x])) { s with heap := h'', toks := tk + 1 } := Inv.turnN (s := { s with heap := h', toks := tk + 1 }) (ch := [z]) I1 (fun c hc => by
   have : c = z := by simpa using hc
   subst this;exact ⟨hf5 c (by simp), (hf c (by simp)).2⟩) (fun c o hc e => (sb.2 c (fun q => hc (by simp [q]))).trans e)
  refine ⟨.ref s.heap.objs.size, _, I2, rfl, ⟨_, x, fun zs hzs => by rw [I.list_inj hzs hq]; exact hx, hfr, rfl, rfl⟩, ⟨⟨_, by rw [show ((n0 + (i + 1) : Nat) : Int) = ((n0 + i : Nat) : Int) + 1 by omega]; exact z1⟩, ?_⟩, hf5⟩;have h3 := hst.2.1;rw [show n0 + i + 1 - n0 = i + 1 by omega] at h3;exact h3.at fun o e => (sb.2 it D.symm).trans e
 done := by
  rintro X hP hw hK hc i aa s σ H E I hf ⟨⟨old, hz⟩, h1⟩ ⟨xs, hq, hend⟩;subst hP hw hK;obtain ⟨its, rv, p1, _⟩ := I.list hq;have nb : a ≠ it := dR I hq (hf it (by simp)) (by obtain ⟨o1, e1, c1, d1⟩ := id h1; exact ⟨_, e1, by rw [c1]; simp⟩);have hl := rv.length;refine wpAny_pyNext_enum_endD (qi (A := X.A.in1) (I.ok.hd hc) it a nb its.toArray n0) hz ⟨Nat.le_add_right _ _, ?_, p1.isList⟩ fun h' hk => ⟨rfl, ?_⟩
  ·rw [Nat.add_sub_cancel_left, List.size_toArray, <- hl, hend]; exact h1
  ·exact I.turnN (ch := [z, it]) (fun c hc => hf c hc) fun c o hc e => hk c o (fun q => hc (by simp [q])) e
 self := fun _ _ _ _ _ ⟨⟨_, hz⟩, _⟩ h => wpAny_pyIter_enum hz h
theorem me : bootBuiltins "enumerate" = some (.type "enumerate") := by decide +kernel
noncomputable def z8 (K : PySem.W.Frag) (n0 : Nat) (ta : TA) : TI := fun σ H R => ta σ H fun vs H1 => ∃ a, vs = [.ref a] /\ (∃ xs, cZ K H1 a xs) /\ R (Ao K a n0) H1
theorem tM {X : Cx} {aa : List (Addr × Obj)} {σ : St} {H1 : Hp} {s1 : Shared} {h' : Heap} {t' : Nat} {l : Addr} {n0 : Nat} {elts : List Expr} {x1 : Nat} {tpos : Pos} {R : It -> Hp -> Prop} (I1 : Inv X aa σ H1 s1) (he : IsEnum h' (s1.heap.objs.size + 1) s1.heap.objs.size (n0 : Int) .none) (hi : h'.IsListIter s1.heap.objs.size l 0)
  (hk : ∀ b o, s1.heap.get? b = some o -> h'.get? b = some o) (q : R (Ao X.K l n0) H1) : Dr X aa σ (.Tuple elts x1 tpos) R (.ref (s1.heap.objs.size + 1)) { s1 with heap := h', toks := t' } := by
 have I2 : Inv X aa σ H1 { s1 with heap := h', toks := t' } := I1.kept (t' := t') hk;refine ⟨_, [s1.heap.objs.size + 1, s1.heap.objs.size], _, _, H1, rfl, I2, wG l (s1.heap.objs.size + 1) s1.heap.objs.size n0 (Nat.ne_of_gt (Nat.lt_succ_self _)), ⟨⟨_, by simpa using he⟩, hi⟩, fun c hc => ?_, q⟩;have hle : s1.heap.objs.size <= c := by
  simp only [List.mem_cons, List.not_mem_nil, or_false] at hc;rcases hc with rfl | rfl
  ·exact Nat.le_succ _
  ·exact Nat.le_refl _
 obtain ⟨f0, f1, f2, f3, f4, f5⟩ := I1.fpOk hle (I1.hok.fresh hle);exact ⟨f0, f1, f2, f3, f4, f5⟩
theorem A4 {X : Cx} {elts : List Expr} {x1 : Nat} {tpos : Pos} {a : Expr} {ta : TA} {p pos : Pos} (hg : Gl X "enumerate") (hm : X.mg "enumerate" = none) (ha : PA X [a] ta) (hs : autoParam (starEach [a] X.env = [(false, eval a X.env)]) au._auto_1) :
  PI X (.Tuple elts x1 tpos) (.Call (.Name "enumerate" p) [a] [] pos) (z8 X.K 0 ta) := by
 intro aa s σ H R I h;refine Call_ (fu I hg hm me (PyProof.Rows.callWith_type1 (bq (ha pos aa s σ H _ I h) fun us s1 ⟨vs, H1, I1, r1, q1⟩ => ?_) (by rw [hs]; rfl) (by rfl)));obtain ⟨l, e, ⟨xs, hq⟩, q⟩ := q1;subst e;cases r1 with
 | cons r rr =>
  cases rr;cases r;obtain ⟨its, rv, p1, _⟩ := I1.list hq;refine call_enumerate_list p1.isList fun h' he hi hsz hk => ?_
  refine wpAny_pyIter_enum (s := { s1 with heap := h' }) he ?_;exact tM (t' := s1.toks) (n0 := 0) I1 he hi hk q
end L2
namespace DD
open PySem PySem.Spec PyProof.Rows L2
noncomputable def kl : Nat -> List D -> List D
 | _, [] => []
 | n, x :: xs => .tup [.int (n : Int), x] :: kl (n + 1) xs
theorem pS : ∀ (xs : List D) (n : Nat), (kl n xs).length = xs.length
 | [], _ => rfl
 | _ :: xs, n => by simp [kl, pS xs]
theorem pT : ∀ (xs : List D) (n i : Nat), (kl n xs)[i]? = (xs[i]?).map fun x => .tup [.int ((n + i : Nat) : Int), x]
 | [], _, _ => by simp [kl]
 | _ :: xs, n, 0 => by simp [kl]
 | _ :: xs, n, i + 1 => by simp only [kl, List.getElem?_cons_succ, pT xs]; rw [show n + 1 + i = n + (i + 1) by omega]
noncomputable def lO (n0 : Nat) (c : DE) : DI := fun σ => (c σ).bind fun p => match p.1 with
 | .lst _ xs => some (kl n0 (D.fzL xs), p.2)
 | _ => none
theorem tD {K : PySem.W.Frag} {F : Addr -> Prop} {H : Hp} {xs : List D} {a : Addr} {vs : List V} {n0 : Nat} (fl : FL K F H a vs) (ol : OwL K F H xs vs []) :
  ni K (Ao K a n0) (kl n0 xs) F H where
 item := fun i d F1 H1 x1 dm e => by
  rw [pT] at e;rcases hz : xs[i]? with _ | x
  ·rw [hz] at e; cases e
  ·rw [hz] at e; cases e
   obtain ⟨u, La, Lx, Lb, e1, eL, o1, _⟩ := ol.kid hz;have eLx : Lx = [] := (List.append_eq_nil_iff.mp (List.append_eq_nil_iff.mp eL.symm).1).2;subst eLx;refine ⟨⟨vs, u, (fl.ext x1).sq, e1⟩, fun v H2 ⟨p, u', h1, hp, hH, hv⟩ => ?_⟩;subst hH hv;have h1' := h1 vs (fl.ext x1).sq;rw [e1] at h1'; cases h1';have gr := nJ (us := [.int ((n0 + i : Nat) : Int), u]) dm hp;refine ⟨_, gr, ?_⟩;simp only [Ow, OwL];exact ⟨p, [.int ((n0 + i : Nat) : Int), u], rfl, .inl ⟨.inr rfl, bG⟩, .int ((n0 + i : Nat) : Int), [u], [], [], rfl, ⟨rfl, rfl⟩, ⟨u, [], [], [], rfl, (o1.mono x1 (fun a ha => by cases ha)).mono gr.x (fun a ha => by cases ha), ⟨rfl, rfl⟩, rfl⟩, rfl⟩
 done := fun F1 H1 x1 => ⟨vs, (fl.ext x1).sq, by rw [pS]; exact ol.length⟩
section
variable {X : Cx} {a b o e : Expr} {c c' : DE} {p p1 pos1 : Pos} {elts : List Expr} {x1 : Nat} {tpos pos : Pos}
theorem AM (hgl : Gl X "enumerate") (hm : X.mg "enumerate" = none) (ha : QE X a c) (hs : autoParam (starEach [a] X.env = [(false, eval a X.env)]) au._auto_1) :
  QI X (.Tuple elts x1 tpos) (.Call (.Name "enumerate" p1) [a] [] pos1) (lO 0 c) := iA (A4 hgl hm (cE ha dQ hs) hs) fun σ H R hq0 => by
 obtain ⟨F, Ro, σD, xs, σD', r, ec, k⟩ := hq0;unfold lO at ec;rcases h1 : c σD with _ | ⟨x, σ1⟩
 ·rw [h1] at ec; cases ec
 ·rw [h1] at ec; simp only [bind_some] at ec
  split at ec
  ·cases ec
   refine ⟨F, Ro, σD, _, _, r, h1, fun F1 H1 v x1 r1 => ?_⟩;obtain ⟨F3, x3, r3, o3⟩ := r1.freeze;simp only [D.fz, Ow] at o3;obtain ⟨a1, vs, rfl, fl, ol, _⟩ := o3;exact ⟨a1, rfl, ⟨vs, fl.sq⟩, k F3 H1 _ (x1.trans x3) r3.pop (tD fl ol)⟩
  ·cases ec
end
section
variable {X : Cx} {elt tg iter : Expr} {ifs : List Expr} {g : DG} {t : DT} {c : DE} {pos : Pos} {W : List Nat} {scope : Scope} {k : Nat} {elts : List Expr} {x1 : Nat} {tpos p1 pos1 npos npos2 : Pos}
end
end DD
namespace L2
open PySem PySem.Spec PyProof.Rows
section
variable {prog : Program} {w : World} {A : Around} {E : Value -> Shared -> Prop} {s : Shared}
theorem rD {α : Type} {x : Sem α} {Q Q1 : α -> Shared -> Prop} {M : Model} (h : wpAny M A x Q E s) (hQ : ∀ a s, Q a s -> Q1 a s) : wpAny M A x Q1 E s := wpAny_mono h hQ fun _ _ x => x
theorem rn (a v : Value) : checkTypeCall "enumerate" ⟨[a], [("start", v)]⟩ = pure () := by kernel_rfl
theorem qJ (a v : Value) : checkBuiltinCall "enumerate.__new__" ⟨[.type "enumerate", a], [("start", v)]⟩ = pure () := by kernel_rfl
theorem pN (o a v : Value) : argsOk "object.__init__" ⟨[o, a], [("start", v)]⟩ := by
 unfold argsOk;rw [signature?_of (id := "object.__init__") (n := ['_', '_', 't', 'i', 'n', 'i', '_', '_']) (o := ['t', 'c', 'e', 'j', 'b', 'o']) (by kernel_rfl) F.owner_object]
 kernel_rfl
theorem pR (l : Addr) (items : Array Value) (n : Nat) (dct : Option Addr) (sl : Array (Option Value)) (t : Tok) :
  Meets (Builtin.«enumerate.__new__» ⟨[.type "enumerate", .ref l], [("start", .int 1 t)]⟩) (fun _ R s => s.heap.get? l = some { cls := .type "list", dict := dct, data := .seq items n, slots := sl } /\
   R (.ok (.ret (.ref (s.heap.push { cls := .type "list_iterator", data := .fields #[.ref l, .int 0 0] }).objs.size)))
    { s with heap := (s.heap.push { cls := .type "list_iterator", data := .fields #[.ref l, .int 0 0] }).push { cls := .type "enumerate", data := .fields #[.none, .bool false, .ref s.heap.objs.size, rawInt 1, .none, .none] } }) := Meets.of_wp fun prog w A R s h => by
  obtain ⟨hp, g, d, tk, os⟩ := s; obtain ⟨hl, h⟩ := h;have hsub := sub_enumerate;have hL : Heap.IsList (Shared.heap ⟨hp, g, d, tk, os⟩) l items := ⟨_, hl, rfl, n, rfl⟩
  wp_walk using AutoSeq1.wpAny_loadPart' hl
  refine wpAny_stack_any fun st => wpAny_pure ?_
  split
  ·rename_i c _ _ _ _ _
   cases (c == Value.type "enumerate")
   ·wp_walk using AutoSeq1.wpAny_loadPart' hl, wpAny_pyIter_list hL
    exact ⟨_, rfl, h⟩
   ·wp_walk using AutoSeq1.wpAny_loadPart' hl, wpAny_pyIter_list hL
    exact ⟨_, rfl, h⟩
  ·wp_walk using AutoSeq1.wpAny_loadPart' hl, wpAny_pyIter_list hL
   exact ⟨_, rfl, h⟩
theorem wg {T newId : String} {self a v : Value} (hl : typeLookup (.type T) "__init__" = pure (some (.builtin "object.__init__"))) (hm : Bind.madeBy (.type T) = pure (some newId)) (hne : (some newId != some "object.__new__") = true) :
  Meets (Builtin.«object.__init__» ⟨[self, a], [("start", v)]⟩) (fun _ R s => s.TypeIs self T /\ R (.ok (.ret .none)) s) := Meets.of_wp fun prog w A R s hs => by
 obtain ⟨hT, hq⟩ := hs
 repeat (any_goals (first | assumption | wp_step))
 exact ⟨_, rfl, hq⟩
theorem oI {l : Addr} {items : Array Value} {t : Tok} {Q : Value -> Shared -> Prop} (hL : s.heap.IsList l items)
  (h : ∀ h', IsEnum h' (s.heap.objs.size + 1) s.heap.objs.size 1 .none -> h'.IsListIter s.heap.objs.size l 0 -> (∀ b o, s.heap.get? b = some o -> h'.get? b = some o) -> Q (.ref (s.heap.objs.size + 1)) { s with heap := h' }) :
  wpAny (model prog w) A (call (.type "enumerate") [.ref l] [("start", .int 1 t)]) Q E s := by
 obtain ⟨⟨c0, dct, dt, sl⟩, hl, hc0, n, hd⟩ := hL;dsimp only at hc0 hd;subst hc0 hd;have ft := F.called_enumerate;obtain ⟨c, tl, hmro⟩ := ft.mro;have hmade := ft.made;have hsub := ft.sub;have h1 := ft.notType;have h2 := ft.canCreate;have hct := rn (.ref l) (.int 1 t);have hcn := qJ (.ref l) (.int 1 t);refine wpAny_call (codeAny_of_tree ?_);show wpAny _ _ (callAny (.type "enumerate") _) _ _ _;refine wpAny_pure ⟨Code.quiet_builtin _ (by decide +kernel), codeAny_builtin F.entry_type_call ?_⟩;rw [Around.under_plain (weight_type_call_type "enumerate" _ _) (units_type_call_type "enumerate" _ _)]
 repeat (any_goals (first | assumption | wp_step))
 have hz : (s.heap.push { cls := .type "list_iterator", data := .fields #[.ref l, .int 0 0] }).objs.size = s.heap.objs.size + 1 := Heap.size_push ..;have he := Heap.get?_push_size (s.heap.push { cls := .type "list_iterator", data := .fields #[.ref l, .int 0 0] }) (o := { cls := .type "enumerate", data := .fields #[.none, .bool false, .ref s.heap.objs.size, rawInt 1, .none, .none] }) rfl;rw [hz] at he;refine codeAny_mono (codeAny_call_builtin (R := wants (fun obj s₁ => s₁.TypeIs obj "enumerate" /\ Q obj s₁) E) ft.plain F.entry_enumerate_new (wpAny_of_eq hcn (pR l items n dct sl t prog w A.in1 _ s ⟨hl, ?_⟩))) fun r s₁ hr => ?_
 ·show _ /\ _
  rw [hz];exact ⟨⟨_, he, rfl⟩, h _ he ⟨_, Heap.get?_push_of_some _ (Heap.get?_push_size _ rfl), rfl, rfl⟩ fun b o x => Heap.get?_push_of_some _ (Heap.get?_push_of_some _ x)⟩
 ·cases r with
  | error e => exact hr
  | ok fl =>
   cases fl with
   | ret obj =>
    obtain ⟨hT, hq0⟩ := hr;have hli := ft.init.lookup;have hbi := ft.init.bind obj
    repeat (any_goals (first | assumption | wp_step))
    refine codeAny_mono (codeAny_call_builtin (R := wants (fun r s₂ => r = .none /\ Q obj s₂) E) ft.init.plain F.entry_object_init (ft.init.check _ _ _ _ _ _ _ _ hT (pN obj (.ref l) (.int 1 t)) (wg ft.init.lookup ft.made dC prog w A.in1 _ s₁ ⟨hT, rfl, hq0⟩))) fun r₂ s₂ hr₂ => ?_
    cases r₂ with
    | error e => exact hr₂
    | ok fl₂ =>
     cases fl₂ with
     | ret r =>
      obtain ⟨rfl, hq⟩ := hr₂
      repeat (any_goals (first | assumption | wp_step))
     | _ => exact hr₂.elim
   | _ => exact hr.elim
theorem tW {M : Model} {pos : Pos} {T : String} {args : List (Bool × Sem Value)} {kws : List (Option Str × Sem Value)} {Q : Value -> Shared -> Prop} (hp : args.any (·.1) = false) (hk : kws.any (·.1.isNone) = false)
  (h : wpAny M A (evalArgs (.type T) true args kws) (fun a s₁ => wpAny M A (call (.type T) a.pos a.kw) Q E s₁) E s) : wpAny M A (callWith pos (.type T) [] args kws) Q E s := by
 unfold callWith;refine wpAny_bind (wpAny_holding (rD h fun a s₁ h₁ => wpAny_bind (wpAny_standAt ?_)));simp only [hp, hk, Bool.or_false];refine wpAny_bind (wpAny_pure (wpAny_bind (rD h₁ fun r s₂ hr => wpAny_bind (wpAny_holding (wpAny_point (wpAny_pure hr))))))
theorem xW {M : Model} {env : Env} {pos kp cp : Pos} {kk} {a : Expr} {f : Value} {Q : Args -> Shared -> Prop} (hs : starEach [a] env = [(false, eval a env)])
  (h : wpAny M A (spliced (backTo pos (starEach [a] env))) (fun vs s₁ => ∀ t, Q ⟨vs, [("start", .int 1 t)]⟩ { s₁ with toks := s₁.toks + 1 }) E s) :
  wpAny M A (evalArgs f true (backTo pos (starEach [a] env)) (backToKw pos (keywordEach [⟨some "start", .Constant (.int 1) kk cp, kp⟩] env))) Q E s := by
 rw [hs] at h ⊢;refine PyProof.Rows.evalArgs_kwB (by rfl) (rD h fun vs s₁ h₁ => ?_);refine PyProof.Rows.kws_cons (wpAny_Constant_int (PyProof.Rows.kws_nil ?_));exact h₁ _
end
theorem yQ {X : Cx} {elts : List Expr} {x1 : Nat} {tpos : Pos} {a : Expr} {ta : TA} {p pos kp cp : Pos} {kk} (hg : Gl X "enumerate") (hm : X.mg "enumerate" = none) (ha : PA X [a] ta) (hs : autoParam (starEach [a] X.env = [(false, eval a X.env)]) au._auto_1) :
  PI X (.Tuple elts x1 tpos) (.Call (.Name "enumerate" p) [a] [⟨some "start", .Constant (.int 1) kk cp, kp⟩] pos) (z8 X.K 1 ta) := by
 intro aa s σ H R I h;refine wpAny_Call_Name_kw (fu I hg hm me (tW (by rw [hs]; rfl) (by rfl) (xW hs (rD (ha pos aa s σ H _ I h) fun us s1 ⟨vs, H1, I1, r1, q1⟩ t => ?_))));obtain ⟨l, e, ⟨xs, hq⟩, q⟩ := q1;subst e;cases r1 with
 | cons r rr =>
  cases rr;cases r;obtain ⟨its, rv, p1, _⟩ := I1.list hq;refine oI (s := { s1 with toks := s1.toks + 1 }) p1.isList fun h' he hi hk => ?_
  refine wpAny_pyIter_enum (s := { s1 with heap := h', toks := s1.toks + 1 }) he ?_;exact tM (t' := s1.toks + 1) (n0 := 1) (I1.kept (t' := s1.toks + 1) (fun _ _ e => e)) he hi hk q
end L2
namespace DD
open PySem PySem.Spec PyProof.Rows L2
section
variable {X : Cx} {a b o e : Expr} {c c' : DE} {p p1 pos1 kp cp : Pos} {elts : List Expr} {x1 : Nat} {tpos pos : Pos} {kk : Nat}
theorem yM (n0 : Nat) (hgl : Gl X "enumerate") (hm : X.mg "enumerate" = none) (ha : QE X a c) (h0 : autoParam (n0 = 1) au._auto_1) (hs : autoParam (starEach [a] X.env = [(false, eval a X.env)]) au._auto_1) :
  QI X (.Tuple elts x1 tpos) (.Call (.Name "enumerate" p1) [a] [⟨some "start", .Constant (.int 1) kk cp, kp⟩] pos1) (lO n0 c) := iA (yQ hgl hm (cE ha dQ hs) hs) fun σ H R hq0 => by
 obtain ⟨F, Ro, σD, xs, σD', r, ec, k⟩ := hq0;subst h0;unfold lO at ec;rcases h1 : c σD with _ | ⟨x, σ1⟩
 ·rw [h1] at ec; cases ec
 ·rw [h1] at ec; simp only [bind_some] at ec
  split at ec
  ·cases ec
   refine ⟨F, Ro, σD, _, _, r, h1, fun F1 H1 v x1 r1 => ?_⟩;obtain ⟨F3, x3, r3, o3⟩ := r1.freeze;simp only [D.fz, Ow] at o3;obtain ⟨a1, vs, rfl, fl, ol, _⟩ := o3;exact ⟨a1, rfl, ⟨vs, fl.sq⟩, k F3 H1 _ (x1.trans x3) r3.pop (tD fl ol)⟩
  ·cases ec
end
section
variable {X : Cx} {elt : Expr} {ifs : List Expr} {g : DG} {t : DT} {c : DE} {pos : Pos} {W : List Nat} {scope : Scope} {k : Nat} {elts : List Expr} {x1 : Nat} {tpos p1 pos1 npos kp cp : Pos} {kk : Nat}
end
end DD
namespace L2
open PySem PySem.Spec PyProof.Rows
section
variable {prog : Program} {w : World} {A : Around} {E : Value -> Shared -> Prop} {s : Shared}
end
section
variable {X : Cx} {pos : Pos}
end
end L2
namespace DD
open PySem PySem.Spec PyProof.Rows L2
section
variable {X : Cx} {e tg a : Expr} {ts : List Expr} {g : DG} {gs : qx} {pos p1 p2 pos2 : Pos} {W W' : List Nat} {c : DE} {apos cpos : Pos}
end
section
variable {X : Cx} {e o a b : Expr} {es : List Expr} {p q : DP} {c c' : DE} {pos apos cpos : Pos} {i : Nat} {js : List DP}
end
end DD
namespace L2
open PySem PySem.Spec PyProof.Rows
section
variable {X : Cx} {tg : Expr} {pos : Pos}
end
end L2
namespace DD
open PySem PySem.Spec PyProof.Rows L2
section
variable {X : Cx} {tg e a b c : Expr} {ca : DA} {p1 pos1 : Pos}
end
end DD
namespace L2
open PySem PySem.Spec PyProof.Rows
section
variable {X : Cx} {pos : Pos}
end
end L2
namespace DD
open PySem PySem.Spec PyProof.Rows L2
section
variable {X : Cx} {a b c : Expr} {ca : DA} {p1 p2 pos pos2 : Pos}
end
end DD
namespace L2
open PySem PySem.Spec PyProof.Rows
section
variable {X : Cx} {e st : Expr} {te ts : TE} {pos p2 : Pos}
end
end L2
namespace DD
open PySem PySem.Spec PyProof.Rows L2
section
variable {X : Cx} {e st : Expr} {p q : DP} {pos p2 : Pos}
end
end DD
namespace PySem
open Sem (wp)
namespace F
end F
section
variable {prog : Program} {w : World} {A : Around} {E : Value -> Shared -> Prop} {s : Shared}
end
section
variable {prog : Program} {w : World} {A : Around} {E : Value -> Shared -> Prop} {s : Shared}
end
end PySem
namespace L2
open PySem PySem.Spec PyProof.Rows
end L2
namespace DD
open PySem PySem.Spec PyProof.Rows L2
theorem vc : ∀ xs : List D, (D.fzL xs).length = xs.length := by
 intro xs
 induction xs with
 | nil => rfl
 | cons x xs ih => simp only [D.fzL, List.length_cons, ih]
section
variable {X : Cx} {a b c d : Expr} {ca cb cc cd : DE} {p1 pos1 : Pos} {elts : List Expr} {x1 : Nat} {tpos : Pos}
end
end DD
namespace PySem.AutoSeq1
end PySem.AutoSeq1
namespace L2
open PySem PySem.Spec PyProof.Rows
section
variable {X : Cx}
end
end L2
namespace DD
open PySem PySem.Spec PyProof.Rows L2
section
variable {X : Cx} {e : Expr} {c : DE} {apos cpos : Pos}
end
end DD
namespace TT
open PySem L2 DD
noncomputable abbrev Rl (α : Type) := α -> D -> Prop
structure Sl (S : Type) where
 {α : Type}
 get : S -> α
 r : Rl α
noncomputable abbrev aA (S : Type) := List (Option (Sl S))
section
variable {S : Type} {α β γ δ ρ : Type}
noncomputable def On : Option (Sl S) -> S -> Option D -> Prop
 | none, _, _ => True
 | some l, s, o => ∃ d, o = some d /\ l.r (l.get s) d
noncomputable def Sat : aA S -> S -> ar -> Prop
 | [], _, [] => True
 | a :: Γ, s, x :: σ => On a s x /\ Sat Γ s σ
 | _, _, _ => False
theorem Sat.len {s : S} : ∀ {Γ : aA S} {σ : ar}, Sat Γ s σ -> σ.length = Γ.length := by
 intro Γ
 induction Γ with
 | nil =>
  intro σ h;cases σ with
  | nil => rfl
  | cons _ _ => exact h.elim
 | cons a Γ ih =>
  intro σ h;cases σ with
  | nil => exact h.elim
  | cons x σ => simp [ih h.2]
theorem Sat.get {s : S} {l : Sl S} : ∀ {Γ : aA S} {σ : ar} {i : Nat}, Sat Γ s σ -> Γ[i]? = some (some l) -> ∃ d, bf σ i = some d /\ l.r (l.get s) d := by
 intro Γ
 induction Γ with
 | nil => intro σ i _ e; simp at e
 | cons a Γ ih =>
  intro σ i h e;cases σ with
  | nil => exact h.elim
  | cons x σ =>
   cases i with
   | zero =>
    simp at e; subst e;obtain ⟨d, e1, hd⟩ := h.1;subst e1;exact ⟨d, rfl, hd⟩
   | succ i =>
    obtain ⟨d, h1, h2⟩ := ih (i := i) h.2 (by simpa using e);exact ⟨d, by simpa [bf] using h1, h2⟩
theorem Sat.set {s : S} {l : Option (Sl S)} {o : Option D} : ∀ {Γ : aA S} {σ : ar} {i : Nat}, Sat Γ s σ -> On l s o -> Sat (Γ.set i l) s (σ.set i o) := by
 intro Γ
 induction Γ with
 | nil =>
  intro σ i h k;cases σ with
  | nil => exact h
  | cons _ _ => exact h.elim
 | cons a Γ ih =>
  intro σ i h k;cases σ with
  | nil => exact h.elim
  | cons x σ =>
   cases i with
   | zero => exact ⟨k, h.2⟩
   | succ i => exact ⟨h.1, ih h.2 k⟩
theorem Sat.setn {Γ : aA S} {s : S} {σ : ar} {i : Nat} {o : Option D} (h : Sat Γ s σ) : Sat (Γ.set i none) s (σ.set i o) := h.set trivial
theorem On.setn {s : S} : ∀ {Γ : aA S} {σ : ar} {i : Nat}, Sat Γ s σ -> Sat (Γ.set i none) s σ := by
 intro Γ
 induction Γ with
 | nil => intro σ i h; exact h
 | cons a Γ ih =>
  intro σ i h;cases σ with
  | nil => exact h.elim
  | cons x σ =>
   cases i with
   | zero => exact ⟨trivial, h.2⟩
   | succ i => exact ⟨h.1, ih h.2⟩
inductive Fr (u : S -> S) : aA S -> Prop
 | nil : Fr u []
 | non {Γ} : Fr u Γ -> Fr u (none :: Γ)
 | som {l : Sl S} {Γ} : (∀ s d, l.r (l.get s) d -> l.r (l.get (u s)) d) -> Fr u Γ -> Fr u (some l :: Γ)
theorem Fr.sat {u : S -> S} {s : S} : ∀ {Γ : aA S} {σ : ar}, Fr u Γ -> Sat Γ s σ -> Sat Γ (u s) σ := by
 intro Γ σ l
 induction l generalizing σ with
 | nil => intro h; cases σ <;> exact h
 | non l ih =>
  intro h;cases σ with
  | nil => exact h.elim
  | cons x σ => exact ⟨trivial, ih h.2⟩
 | som f1 l ih =>
  intro h;cases σ with
  | nil => exact h.elim
  | cons x σ =>
   obtain ⟨d, e, hd⟩ := h.1;exact ⟨⟨d, e, f1 s d hd⟩, ih h.2⟩
class Wk (r r' : Rl α) : Prop where
 w : ∀ a d, r a d -> r' a d
instance (priority := high) Wk.refl {r : Rl α} : Wk r r := ⟨fun _ _ h => h⟩
inductive Le : aA S -> aA S -> Prop
 | nil : Le [] []
 | non {a} {Γ Γ'} : Le Γ Γ' -> Le (a :: Γ) (none :: Γ')
 | som {α : Type} {g : S -> α} {r r' : Rl α} {Γ Γ'} : Wk r r' -> Le Γ Γ' -> Le (some ⟨g, r⟩ :: Γ) (some ⟨g, r'⟩ :: Γ')
theorem Le.sat {s : S} : ∀ {Γ Γ' : aA S} {σ : ar}, Le Γ Γ' -> Sat Γ s σ -> Sat Γ' s σ := by
 intro Γ Γ' σ l
 induction l generalizing σ with
 | nil => intro h; exact h
 | non l ih =>
  intro h;cases σ with
  | nil => exact h.elim
  | cons x σ => exact ⟨trivial, ih h.2⟩
 | som w l ih =>
  intro h;cases σ with
  | nil => exact h.elim
  | cons x σ =>
   obtain ⟨d, e, hd⟩ := h.1;exact ⟨⟨d, e, w.w _ _ hd⟩, ih h.2⟩
theorem Le.refl : ∀ {Γ : aA S}, Le Γ Γ
 | [] => .nil
 | none :: _ => .non Le.refl
 | some ⟨_, _⟩ :: _ => .som Wk.refl Le.refl
noncomputable def gZ (n : Nat) : Bool := decide (n <= sizeLine)
noncomputable def zT (n : Nat) : Bool := decide (n < sizeLine)
theorem rQ {n : Nat} (h : gZ n = true) : n <= sizeLine := of_decide_eq_true h
theorem xD {n : Nat} (h : zT n = true) : n < sizeLine := of_decide_eq_true h
noncomputable def rI : Rl Int := fun i d => d = .int i
noncomputable def rB : Rl Bool := fun b d => d = .bl b
noncomputable def rS : Rl Str := fun x d => d = .str x
noncomputable def rN : Rl Unit := fun _ d => d = .non
noncomputable def rA : Rl Unit := fun _ _ => True
noncomputable def EL (t : String) : Rl Unit := fun _ d => d = .ty t
inductive All2 (r : Rl α) : List α -> List D -> Prop
 | nil : All2 r [] []
 | cons {a d as ds} : r a d -> All2 r as ds -> All2 r (a :: as) (d :: ds)
noncomputable def rL (r : Rl α) : Rl (List α) := fun xs d => ∃ ds, d = .lst true ds /\ All2 r xs ds
noncomputable def rM (r : Rl α) : Rl (List α) := fun xs d => ∃ o ds, d = .lst o ds /\ All2 r xs ds
noncomputable def fm (r : Rl α) (q : Rl β) : Rl (α × β) := fun p d => ∃ x y, d = .tup [x, y] /\ r p.1 x /\ q p.2 y
noncomputable def du (r : Rl α) (q : Rl β) (t : Rl γ) : Rl (α × β × γ) := fun p d => ∃ x y z, d = .tup [x, y, z] /\ r p.1 x /\ q p.2.1 y /\ t p.2.2 z
noncomputable def rP : Rl PyData := fun p d => d.py = some p /\ d.fz = d
theorem All2.len {r : Rl α} {as : List α} {ds : List D} (h : All2 r as ds) : as.length = ds.length := by
 induction h with
 | nil => rfl
 | cons _ _ ih => simp [ih]
theorem All2.mono {r r' : Rl α} (k : ∀ a d, r a d -> r' a d) {as : List α} {ds : List D} (h : All2 r as ds) : All2 r' as ds := by
 induction h with
 | nil => exact .nil
 | cons a _ ih => exact .cons (k _ _ a) ih
theorem All2.get {r : Rl α} {as : List α} {ds : List D} {i : Nat} {a : α} (h : All2 r as ds) : as[i]? = some a -> ∃ d, ds[i]? = some d /\ r a d := by
 induction h generalizing i with
 | nil => intro e; simp at e
 | cons h0 _ ih =>
  intro e;cases i with
  | zero => simp at e; subst e; exact ⟨_, rfl, h0⟩
  | succ i => simpa using ih (i := i) (by simpa using e)
theorem All2.set {r : Rl α} {as : List α} {ds : List D} {i : Nat} {a : α} {d : D} (h : All2 r as ds) (k : r a d) : All2 r (as.set i a) (ds.set i d) := by
 induction h generalizing i with
 | nil => exact .nil
 | cons h0 h ih =>
  cases i with
  | zero => exact .cons k h
  | succ i => exact .cons h0 ih
theorem All2.append {r : Rl α} {as bs : List α} {ds es : List D} (h : All2 r as ds) (k : All2 r bs es) : All2 r (as ++ bs) (ds ++ es) := by
 induction h with
 | nil => exact k
 | cons h0 _ ih => exact .cons h0 ih
theorem All2.drop {r : Rl α} : ∀ {as : List α} {ds : List D} (n : Nat), All2 r as ds -> All2 r (as.drop n) (ds.drop n)
 | _, _, 0, h => h
 | _, _, _ + 1, .nil => .nil
 | _, _, n + 1, .cons _ h => h.drop n
theorem All2.take {r : Rl α} : ∀ {as : List α} {ds : List D} (n : Nat), All2 r as ds -> All2 r (as.take n) (ds.take n)
 | _, _, 0, h => .nil
 | _, _, _ + 1, .nil => .nil
 | _, _, n + 1, .cons k h => .cons k (h.take n)
theorem All2.rep {r : Rl α} {a : α} {d : D} (h : r a d) : ∀ n, All2 r (List.replicate n a) (List.replicate n d)
 | 0 => .nil
 | n + 1 => .cons h (All2.rep h n)
theorem All2.flat {r : Rl α} {as : List α} {ds : List D} (h : All2 r as ds) : ∀ n, All2 r (List.replicate n as).flatten (List.replicate n ds).flatten
 | 0 => .nil
 | n + 1 => by rw [List.replicate_succ, List.replicate_succ, List.flatten_cons, List.flatten_cons]; exact h.append (h.flat n)
theorem All2.ofMap {r : Rl α} {f : β -> α} {g : β -> D} (k : ∀ b, r (f b) (g b)) : ∀ bs : List β, All2 r (bs.map f) (bs.map g)
 | [] => .nil
 | b :: bs => .cons (k b) (All2.ofMap k bs)
theorem wT : ∀ ns : List Int, All2 rI ns (ns.map D.int)
 | [] => .nil
 | _ :: ns => .cons rfl (wT ns)
class Fz (r : Rl α) (r' : outParam (Rl α)) : Prop where
 f : ∀ a d, r a d -> r' a d.fz
theorem All2.fz {r r' : Rl α} (k : ∀ a d, r a d -> r' a d.fz) {as : List α} {ds : List D} (h : All2 r as ds) : All2 r' as (D.fzL ds) := by
 induction h with
 | nil => exact .nil
 | cons a _ ih => exact .cons (k _ _ a) ih
instance : Fz rI rI := ⟨fun _ _ h => by cases h; rfl⟩
instance : Fz rS rS := ⟨fun _ _ h => by cases h; rfl⟩
instance {r r' : Rl α} [k : Fz r r'] : Fz (rL r) (rM r') := ⟨fun _ _ ⟨ds, e, h⟩ => ⟨false, D.fzL ds, by rw [e, D.fz], h.fz k.f⟩⟩
instance {r r' : Rl α} [k : Fz r r'] : Fz (rM r) (rM r') := ⟨fun _ _ ⟨o, ds, e, h⟩ => ⟨false, D.fzL ds, by rw [e, D.fz], h.fz k.f⟩⟩
instance {r r' : Rl α} {q q' : Rl β} [k : Fz r r'] [l : Fz q q'] : Fz (fm r q) (fm r' q') := ⟨fun _ _ ⟨x, y, e, h1, h2⟩ => ⟨x.fz, y.fz, by rw [e]; simp only [D.fz, D.fzL], k.f _ _ h1, l.f _ _ h2⟩⟩
instance {r r' : Rl α} [k : Wk r r'] : Wk (rL r) (rM r') := ⟨fun _ _ ⟨ds, e, h⟩ => ⟨true, ds, e, h.mono k.w⟩⟩
class Sc (r : Rl α) : Prop where
 s : ∀ a d, r a d -> ∃ w, d.sc = some w
instance : Sc rI := ⟨fun _ _ h => by cases h; exact ⟨_, rfl⟩⟩
instance : Sc rB := ⟨fun _ _ h => by cases h; exact ⟨_, rfl⟩⟩
instance : Sc rS := ⟨fun _ _ h => by cases h; exact ⟨_, rfl⟩⟩
class Ns (r : Rl α) : Prop where
 s : ∀ a d, r a d -> d.sc = none
instance {r : Rl α} : Ns (rL r) := ⟨fun _ _ hq0 => by obtain ⟨_, e, _⟩ := hq0; rw [e]; rfl⟩
instance {r : Rl α} : Ns (rM r) := ⟨fun _ _ hq0 => by obtain ⟨_, _, e, _⟩ := hq0; rw [e]; rfl⟩
instance {r : Rl α} {q : Rl β} {t : Rl γ} : Ns (du r q t) := ⟨fun _ _ hq0 => by obtain ⟨_, _, _, e, _⟩ := hq0; rw [e]; rfl⟩
class Ls (r : Rl (List α)) (q : outParam (Rl α)) : Prop where
 l : ∀ xs d, r xs d -> ∃ o ds, d = .lst o ds /\ All2 q xs ds
instance {r : Rl α} : Ls (rL r) r := ⟨fun _ _ ⟨ds, e, h⟩ => ⟨true, ds, e, h⟩⟩
instance {r : Rl α} : Ls (rM r) r := ⟨fun _ _ ⟨o, ds, e, h⟩ => ⟨o, ds, e, h⟩⟩
end
section
variable {S : Type} {α β γ δ ρ : Type} {Γ Γ1 Γ2 Γ3 Γ' Γn : aA S}
inductive TR (S ρ : Type) where
 | nx (s : S) | rt (v : ρ) (s : S) | bk (s : S) | ct (s : S)
noncomputable def JP (Γ : aA S) (p : DP) (f : S -> Option α) (r : Rl α) : Prop := ∀ s σ v, Sat Γ s σ -> f s = some v -> ∃ d, p σ = some d /\ r v d
noncomputable def JE (Γ : aA S) (c : DE) (f : S -> Option (α × S)) (r : Rl α) (Γ' : aA S) : Prop := ∀ s σ v s', Sat Γ s σ -> f s = some (v, s') -> ∃ d σ', c σ = some (d, σ') /\ r v d /\ Sat Γ' s' σ'
noncomputable def JT (Γ : aA S) (t : DT) (f : S -> Option (Bool × S)) (Γ' : aA S) : Prop := ∀ s σ b s', Sat Γ s σ -> f s = some (b, s') -> ∃ σ', t σ = some (b, σ') /\ Sat Γ' s' σ'
noncomputable def JL (Γ : aA S) (c : DA) (f : S -> Option (List α × S)) (r : Rl α) (Γ' : aA S) : Prop := ∀ s σ v s', Sat Γ s σ -> f s = some (v, s') -> ∃ ds σ', c σ = some (ds, σ') /\ All2 r v ds /\ Sat Γ' s' σ'
noncomputable def JI (Γ : aA S) (c : DI) (f : S -> Option (List α × S)) (r : Rl α) (Γ' : aA S) : Prop := ∀ s σ v s', Sat Γ s σ -> f s = some (v, s') -> ∃ ds σ', c σ = some (ds, σ') /\ All2 r v ds /\ Sat Γ' s' σ'
noncomputable def JG (Γ : aA S) (g : DG) (put : S -> α -> S) (r : Rl α) (Γ' : aA S) : Prop := ∀ s σ v d, Sat Γ s σ -> r v d -> ∃ σ', g d σ = some σ' /\ Sat Γ' (put s v) σ'
structure Ex (S ρ : Type) where
 rt : aA S
 ro : Rl ρ
 lp : aA S
noncomputable def Rs (Γn : aA S) (E : Ex S ρ) : TR S ρ -> Out -> Prop
 | .nx s, .nx σ => Sat Γn s σ
 | .rt v s, .rt d σ => E.ro v d /\ Sat E.rt s σ
 | .bk s, .bk σ => Sat E.lp s σ
 | .ct s, .ct σ => Sat E.lp s σ
 | _, _ => False
noncomputable def JS (Γ : aA S) (c : DS) (f : S -> Option (TR S ρ)) (Γn : aA S) (E : Ex S ρ) : Prop := ∀ s σ t, Sat Γ s σ -> f s = some t -> ∃ o, c σ = some o /\ Rs Γn E t o
theorem bd {α β : Type} {o : Option α} {f : α -> Option β} {b : β} (h : o.bind f = some b) : ∃ a, o = some a /\ f a = some b := by
 cases o with
 | none => cases h
 | some a => exact ⟨a, rfl, h⟩
theorem mp {α β : Type} {o : Option α} {f : α -> β} {b : β} (h : o.map f = some b) : ∃ a, o = some a /\ f a = b := by
 cases o with
 | none => cases h
 | some a => exact ⟨a, rfl, Option.some.inj h⟩
theorem ai (i : Nat) {get : S -> α} {r : Rl α} (h : Γ[i]? = some (some ⟨get, r⟩)) : JP Γ (pV i) (fun s => some (get s)) r := fun s σ v hs e => by
 obtain ⟨d, h1, h2⟩ := hs.get h;cases e;exact ⟨d, h1, h2⟩
theorem v8 {d : D} (v : α) {r : Rl α} (h : r v d) : JP Γ (pC d) (fun _ => some v) r := fun s σ w hs e => by cases e; exact ⟨d, rfl, h⟩
theorem ap (i : Int) : JP Γ (pC (.int i)) (fun _ => some i) rI := v8 i rfl
theorem Fw (i : Bool) : JP Γ (pC (.bl i)) (fun _ => some i) rB := v8 i rfl
theorem bx (i : Str) : JP Γ (pC (.str i)) (fun _ => some i) rS := v8 i rfl
theorem n5 (t : String) : JP Γ (pC (.ty t)) (fun _ => some ()) (EL t) := v8 () rfl
noncomputable def JO (g : D -> D -> Option D) (h : α -> β -> Option γ) (ra : Rl α) (rb : Rl β) (rc : Rl γ) : Prop := ∀ a b c x y, h a b = some c -> ra a x -> rb b y -> ∃ z, g x y = some z /\ rc c z
theorem aC {g : D -> D -> Option D} {h : α -> β -> Option γ} {ra : Rl α} {rb : Rl β} {rc : Rl γ} {p q : DP} {f1 : S -> Option α} {f2 : S -> Option β} (o : JO g h ra rb rc) (h1 : JP Γ p f1 ra) (h2 : JP Γ q f2 rb) :
  JP Γ (bh g p q) (fun s => (f1 s).bind fun a => (f2 s).bind fun b => h a b) rc := fun s σ v hs e => by
 obtain ⟨a, e1, e⟩ := bd e;obtain ⟨b, e2, e⟩ := bd e;obtain ⟨x, hx, rx⟩ := h1 s σ a hs e1;obtain ⟨y, hy, ry⟩ := h2 s σ b hs e2;obtain ⟨z, hz, rz⟩ := o a b v x y e rx ry;exact ⟨z, by simp only [bh, hx, hy, bind_some, hz], rz⟩
theorem d6 {f : Int -> Int -> Int} : JO (kh f) (fun a b => some (f a b)) rI rI rI := fun a b c x y e h1 h2 => by cases h1; cases h2; cases e; exact ⟨_, rfl, rfl⟩
theorem gv {C : Int -> Int -> Bool} {f : Int -> Int -> Int} : JO (gI C f) (fun a b => if C a b = true then some (f a b) else none) rI rI rI := fun a b c x y e h1 h2 => by
 cases h1; cases h2;dsimp only at e;split at e
 ·rename_i h; cases e; exact ⟨_, if_pos h, rfl⟩
 ·cases e
noncomputable def gM (i j : Int) : Bool := Nat.ble i.natAbs 9223372036854775808 || Nat.ble j.natAbs 9223372036854775808
theorem Bc {i j : Int} (h : gM i j = true) : v4 i j = true := by
 simp only [gM, Bool.or_eq_true, Nat.ble_eq] at h;simp only [v4, decide_eq_true_eq];omega
theorem eT : JO gU (fun a b => if gM a b = true then some (a * b) else none) rI rI rI := fun a b c x y e h1 h2 => by
 cases h1; cases h2;dsimp only at e;split at e
 ·rename_i h; cases e; exact ⟨_, if_pos (Bc h), rfl⟩
 ·cases e
noncomputable def iE (i : Int) : Bool := Nat.ble i.natAbs 1000000000
theorem px {i : Int} (h : iE i = true) : sk i = true := by
 simp only [iE, Nat.ble_eq] at h;simp only [sk, decide_eq_true_eq];omega
theorem ga {f : Int -> Int -> Bool} : JO (mS f) (fun a b => some (f a b)) rI rI rB := fun a b c x y e h1 h2 => by cases h1; cases h2; cases e; exact ⟨_, rfl, rfl⟩
theorem eR {p : DP} {f : S -> Option Int} (h : JP Γ p f rI) : JP Γ (fO p) (fun s => (f s).map fun a => -a) rI := fun s σ v hs e => by
 obtain ⟨a, e1, e2⟩ := mp e;obtain ⟨x, hx, rx⟩ := h s σ a hs e1;cases rx; cases e2;exact ⟨_, by simp only [fO, hx, bind_some, zn], rfl⟩
class Py {α : Type} (r : Rl α) where
 pe : α -> PyData
 ok : α -> Bool
 k : Nat
 py : ∀ a d, r a d -> d.py = some (pe a)
 lay : ∀ a, ok a = true -> (pe a).canLay0 = true
 dep : ∀ a, ok a = true -> (pe a).depth <= k
class EqR {α β : Type} (r : Rl α) (q : Rl β) [Py r] [Py q] (f : outParam (α -> β -> Bool)) : Prop where
 eqv : ∀ a b, PyData.eqv (Py.pe r a) (Py.pe q b) = f a b
instance : Py rI := ⟨PyData.int, fun _ => true, 0, fun _ _ h => by cases h; rfl, fun _ _ => rfl, fun _ _ => Nat.le_refl _⟩
instance : Py rS := ⟨PyData.str, PyData.strOk, 0, fun _ _ h => by cases h; rfl, fun _ h => h, fun _ _ => Nat.le_refl _⟩
theorem xf {r : Rl α} [k : Py r] : ∀ {as : List α} {ds : List D}, All2 r as ds -> D.pyL ds = some (as.map (Py.pe r)) := by
 intro as ds h
 induction h with
 | nil => rfl
 | cons h t ih => simp only [D.pyL, k.py _ _ h, ih, bind_some, map_some, List.map_cons]
theorem uY {r : Rl α} [k : Py r] : ∀ {as : List α}, as.all (Py.ok r) = true -> PyData.canLayAll0 (as.map (Py.pe r)) = true
 | [], _ => rfl
 | a :: as, h => by
  simp only [List.all_cons, Bool.and_eq_true] at h;simp only [List.map_cons, PyData.canLayAll0, k.lay _ h.1, uY h.2, Bool.and_self]
theorem ve {r : Rl α} [k : Py r] : ∀ {as : List α}, as.all (Py.ok r) = true -> PyData.depthAll (as.map (Py.pe r)) <= Py.k r
 | [], _ => Nat.zero_le _
 | a :: as, h => by
  simp only [List.all_cons, Bool.and_eq_true] at h;simp only [List.map_cons, PyData.depthAll]; exact Nat.max_le.mpr ⟨k.dep a h.1, ve h.2⟩
instance {r : Rl (List α)} {q : Rl α} [l : Ls r q] [k : Py q] : Py r := ⟨fun as => .list (as.map (Py.pe q)), fun as => as.all (Py.ok q), Py.k q + 1,
 fun a d h => by obtain ⟨o, ds, e, h⟩ := l.l a d h; rw [e]; simp only [D.py, xf h, map_some], fun a h => by simp only [PyData.canLay0]; exact uY h, fun a h => by simp only [PyData.depth]; have := ve (r := q) (as := a) h; omega⟩
noncomputable def tL (f : α -> β -> Bool) : List α -> List β -> Bool
 | [], [] => true
 | a :: as, b :: bs => f a b && tL f as bs
 | _, _ => false
instance : EqR rI rI (fun a b => a == b) := ⟨fun a b => by simp only [Py.pe, PyData.eqv]⟩
instance : EqR rS rS (fun a b => a == b) := ⟨fun a b => by simp only [Py.pe, PyData.eqv]⟩
theorem Db {r : Rl α} {q : Rl β} [Py r] [Py q] {f : α -> β -> Bool} [k : EqR r q f] : ∀ {as : List α} {bs : List β}, PyData.eqvAll (as.map (Py.pe r)) (bs.map (Py.pe q)) = tL f as bs
 | [], [] => rfl
 | [], _ :: _ => rfl
 | _ :: _, [] => rfl
 | a :: as, b :: bs => by simp only [List.map_cons, PyData.eqvAll, tL, k.eqv a b, Db]
instance {r : Rl (List α)} {q : Rl (List β)} {r' : Rl α} {q' : Rl β} [Ls r r'] [Ls q q'] [Py r'] [Py q'] {f : α -> β -> Bool} [k : EqR r' q' f] : EqR r q (tL f) := ⟨fun a b => by simp only [Py.pe, PyData.eqv]; exact Db⟩
theorem vS {r : Rl α} {q : Rl β} [kr : Py r] [kq : Py q] {a : α} {b : β} (h : (Py.ok r a && Py.ok q b && decide (min (Py.k r) (Py.k q) <= 50)) = true) : kJ (Py.pe r a) (Py.pe q b) = true := by
 simp only [Bool.and_eq_true, decide_eq_true_eq] at h;simp only [kJ, kr.lay _ h.1.1, kq.lay _ h.1.2, Bool.and_self, Bool.true_and, decide_eq_true_eq];have h1 := kr.dep a h.1.1;have h2 := kq.dep b h.1.2;omega
theorem cX {r : Rl α} {q : Rl β} [kr : Py r] [kq : Py q] {f : α -> β -> Bool} [k : EqR r q f] : JO eB (fun a b => if (Py.ok r a && Py.ok q b && decide (min (Py.k r) (Py.k q) <= 50)) = true then some (f a b) else none) r q rB := fun a b c x y e h1 h2 => by
 dsimp only at e;split at e
 ·rename_i h
  cases e;exact ⟨_, by simp only [eB, kr.py _ _ h1, kq.py _ _ h2, bind_some, vS h, if_true, k.eqv], rfl⟩
 ·cases e
theorem ib {r : Rl α} {q : Rl β} [kr : Py r] [kq : Py q] {f : α -> β -> Bool} [k : EqR r q f] : JO jw (fun a b => if (Py.ok r a && Py.ok q b && decide (min (Py.k r) (Py.k q) <= 50)) = true then some (!f a b) else none) r q rB := fun a b c x y e h1 h2 => by
 dsimp only at e;split at e
 ·rename_i h
  cases e;exact ⟨_, by simp only [jw, kr.py _ _ h1, kq.py _ _ h2, bind_some, vS h, if_true, k.eqv], rfl⟩
 ·cases e
theorem All2.at {r : Rl α} {as : List α} {ds : List D} {i : Int} {a : α} (h : All2 r as ds) (e : atI as i = some a) : ∃ d, atI ds i = some d /\ r a d := by
 unfold atI at e ⊢;rw [<- h.len];obtain ⟨j, e1, e2⟩ := bd e;obtain ⟨d, h1, h2⟩ := h.get e2;exact ⟨d, by rw [e1]; exact h1, h2⟩
theorem eu {r : Rl (List α)} {q : Rl α} [l : Ls r q] : JO dJ (fun (xs : List α) i => atI xs i) r rI q := fun a b c x y e h1 h2 => by
 obtain ⟨o, ds, e1, h⟩ := l.l a x h1;cases h2; subst e1;exact h.at e
noncomputable def Dn (r : Rl α) (k : Int) (π : α -> β) (q : Rl β) : Prop := ∀ a d, r a d -> ∃ x, dJ d (.int k) = some x /\ q (π a) x
theorem zL {r : Rl α} {q : Rl β} {t : Rl γ} : Dn (du r q t) 1 (fun p => p.2.1) q := fun _ _ ⟨_, y, _, e, _, h, _⟩ => ⟨y, by rw [e]; rfl, h⟩
theorem zK {r : Rl α} {q : Rl β} {t : Rl γ} : Dn (du r q t) 2 (fun p => p.2.2) t := fun _ _ ⟨_, _, z, e, _, _, h⟩ => ⟨z, by rw [e]; rfl, h⟩
theorem n6 {r : Rl α} {q : Rl β} {k : Int} {π : α -> β} {p : DP} {f : S -> Option α} (t : Dn r k π q) (h : JP Γ p f r) : JP Γ (bh dJ p (pC (.int k))) (fun s => (f s).map π) q := fun s σ v hs e => by
 obtain ⟨a, e1, e2⟩ := mp e;obtain ⟨x, hx, rx⟩ := h s σ a hs e1;obtain ⟨y, hy, ry⟩ := t a x rx;cases e2;exact ⟨y, by simp only [bh, hx, pC, bind_some, hy], ry⟩
noncomputable def nh (g : List D -> Option D) (h : α -> Option γ) (ra : Rl α) (rc : Rl γ) : Prop := ∀ a c x, h a = some c -> ra a x -> ∃ z, g [x] = some z /\ rc c z
noncomputable def E5 (g : List D -> Option D) (h : α -> β -> Option γ) (ra : Rl α) (rb : Rl β) (rc : Rl γ) : Prop := ∀ a b c x y, h a b = some c -> ra a x -> rb b y -> ∃ z, g [x, y] = some z /\ rc c z
theorem dv {g : List D -> Option D} {h : α -> Option γ} {ra : Rl α} {rc : Rl γ} {p : DP} {f : S -> Option α} (o : nh g h ra rc) (h1 : JP Γ p f ra) : JP Γ (bZ g [p]) (fun s => (f s).bind h) rc := fun s σ v hs e => by
 obtain ⟨a, e1, e⟩ := bd e;obtain ⟨x, hx, rx⟩ := h1 s σ a hs e1;obtain ⟨z, hz, rz⟩ := o a v x e rx;exact ⟨z, by simp only [bZ, ld, hx, bind_some, map_some, hz], rz⟩
theorem n8 {g : List D -> Option D} {h : α -> β -> Option γ} {ra : Rl α} {rb : Rl β} {rc : Rl γ} {p q : DP} {f1 : S -> Option α} {f2 : S -> Option β} (o : E5 g h ra rb rc) (h1 : JP Γ p f1 ra) (h2 : JP Γ q f2 rb) : JP Γ (bZ g [p, q]) (fun s => (f1 s).bind fun a => (f2 s).bind fun b => h a b) rc := fun s σ v hs e => by
 obtain ⟨a, e1, e⟩ := bd e;obtain ⟨b, e2, e⟩ := bd e;obtain ⟨x, hx, rx⟩ := h1 s σ a hs e1;obtain ⟨y, hy, ry⟩ := h2 s σ b hs e2;obtain ⟨z, hz, rz⟩ := o a b v x y e rx ry;exact ⟨z, by simp only [bZ, ld, hx, hy, bind_some, map_some, hz], rz⟩
theorem jr {r : Rl (List α)} {q : Rl α} [l : Ls r q] : nh fo (fun xs : List α => some (xs.length : Int)) r rI := fun a c x e h => by
 obtain ⟨o, ds, e1, hh⟩ := l.l a x h;cases e; subst e1;exact ⟨_, rfl, by rw [hh.len]; rfl⟩
theorem Br {r : Rl α} {q : Rl β} {t : Rl γ} : nh fo (fun _ : α × β × γ => some (3 : Int)) (du r q t) rI := fun a c x e hq0 => by obtain ⟨_, _, _, h, _⟩ := hq0; cases e; rw [h]; exact ⟨_, rfl, rfl⟩
theorem mL : nh lN (fun b : Bool => some (if b then (1 : Int) else 0)) rB rI := fun a c x e h => by cases h; cases e; exact ⟨_, rfl, rfl⟩
theorem og : nh mh (fun i : Int => some (if i < 0 then -i else i)) rI rI := fun a c x e h => by cases h; cases e; exact ⟨_, rfl, rfl⟩
class Kd (r : Rl α) (k : outParam String) : Prop where
 k : ∀ a d t, r a d -> jY [d, .ty t] = (jt k t).map .bl
instance : Kd rI "int" := ⟨fun _ _ _ h => by cases h; rfl⟩
instance : Kd rS "str" := ⟨fun _ _ _ h => by cases h; rfl⟩
instance {r : Rl (List α)} {q : Rl α} [l : Ls r q] : Kd r "list" := ⟨fun a d _ h => by obtain ⟨o, ds, e1, h⟩ := l.l a d h; rw [e1]; rfl⟩
instance {r : Rl α} {q : Rl β} {t : Rl γ} : Kd (du r q t) "tuple" := ⟨fun _ _ _ hq0 => by obtain ⟨_, _, _, h, _⟩ := hq0; rw [h]; rfl⟩
theorem lH {r : Rl α} {k t : String} [n : Kd r k] : E5 jY (fun (_ : α) (_ : Unit) => jt k t) r (EL t) rB := fun a b c x y e h1 h2 => by
 cases h2;dsimp only at e;exact ⟨_, by rw [n.k a x t h1, e]; rfl, rfl⟩
end
section
variable {S : Type} {α β γ δ ρ : Type} {Γ Γ0 Γ1 Γ2 Γ3 Γ4 Γ' Γn Γh : aA S} {c c' : DE} {t u : DT} {E : Ex S ρ}
theorem ae {p : DP} {f : S -> Option α} {r : Rl α} [k : Sc r] (h : JP Γ p f r) : JE Γ (dS p) (fun s => (f s).map fun a => (a, s)) r Γ := fun s σ v s' hs e => by
 obtain ⟨a, e1, e2⟩ := mp e;cases e2;obtain ⟨d, hd, rd⟩ := h s σ v hs e1;obtain ⟨w, hw⟩ := k.s _ _ rd;exact ⟨d, σ, by simp only [dS, hd, bind_some, hw], rd, hs⟩
theorem gO (i : Nat) {get : S -> α} {r r' : Rl α} [k : Fz r r'] (h : Γ[i]? = some (some ⟨get, r⟩)) : JE Γ (iK i) (fun s => some (get s, s)) r' (Γ.set i (some ⟨get, r'⟩)) := fun s σ v s' hs e => by
 obtain ⟨d, h1, h2⟩ := hs.get h;cases e;exact ⟨d.fz, _, by simp only [iK, h1, map_some], k.f _ _ h2, hs.set ⟨_, rfl, k.f _ _ h2⟩⟩
theorem qY (i : Nat) {get : S -> α} {r : Rl α} (h : Γ[i]? = some (some ⟨get, r⟩)) : JE Γ (tO i) (fun s => some (get s, s)) r (Γ.set i none) := fun s σ v s' hs e => by
 obtain ⟨d, h1, h2⟩ := hs.get h;cases e;exact ⟨d, σ.set i none, by simp only [tO, h1, map_some], h2, hs.setn⟩
theorem aQ {g : D -> D -> Option D} {h : α -> β -> Option γ} {ra : Rl α} {rb : Rl β} {rc : Rl γ} {f1 : S -> Option (α × S)} {f2 : S -> Option (β × S)} (o : JO g h ra rb rc) (h1 : JE Γ c f1 ra Γ1) (h2 : JE Γ1 c' f2 rb Γ2) :
  JE Γ (bP g c c') (fun s => (f1 s).bind fun p => (f2 p.2).bind fun q => (h p.1 q.1).map fun v => (v, q.2)) rc Γ2 := fun s σ v s' hs e => by
 obtain ⟨⟨a, s1⟩, e1, e⟩ := bd e;obtain ⟨⟨b, s2⟩, e2, e⟩ := bd e;obtain ⟨w, e3, e⟩ := mp e;cases e;obtain ⟨x, σ1, hx, rx, k1⟩ := h1 s σ a s1 hs e1;obtain ⟨y, σ2, hy, ry, k2⟩ := h2 s1 σ1 b s2 k1 e2;obtain ⟨z, hz, rz⟩ := o a b v x y e3 rx ry;exact ⟨z, σ2, by simp only [bP, hx, hy, bind_some, hz, map_some], rz, k2⟩
theorem z5 {r : Rl (List α)} {q : Rl α} [l : Ls r q] {f1 : S -> Option (List α × S)} {f2 : S -> Option (Int × S)} (h1 : JE Γ c f1 r Γ1) (h2 : JE Γ1 c' f2 rI Γ2) :
  JE Γ (tP c c') (fun s => (f1 s).bind fun p => (f2 p.2).bind fun q => (atI p.1 q.1).map fun v => (v, q.2)) q Γ2 := aQ eu h1 h2
theorem iQ {r r1 r2 : Rl α} {f : S -> Option (Bool × S)} {g h : S -> Option (α × S)} [w1 : Wk r1 r] [w2 : Wk r2 r] (h0 : JT Γ t f Γ0) (h1 : JE Γ0 c g r1 Γ1) (h2 : JE Γ0 c' h r2 Γ2) (l : autoParam (Le Γ1 Γ') j4._auto_1) (l2 : autoParam (Le Γ2 Γ') j4._auto_1) : JE Γ (gW t c c') (fun s => (f s).bind fun p => if p.1 = true then g p.2 else h p.2) r Γ' := fun s σ v s' hs e => by
 obtain ⟨⟨a, s1⟩, e1, e2⟩ := bd e;obtain ⟨σ1, hx, k1⟩ := h0 s σ a s1 hs e1;cases a
 ·simp only [Bool.false_eq_true, if_false] at e2
  obtain ⟨y, σ2, hy, ry, k2⟩ := h2 s1 σ1 v s' k1 e2;exact ⟨y, σ2, by simp only [gW, hx, bind_some, hy, Bool.false_eq_true, if_false], w2.w _ _ ry, l2.sat k2⟩
 ·simp only [if_true] at e2
  obtain ⟨y, σ2, hy, ry, k2⟩ := h1 s1 σ1 v s' k1 e2;exact ⟨y, σ2, by simp only [gW, hx, bind_some, hy, if_true], w1.w _ _ ry, l.sat k2⟩
theorem dD {r : Rl α} : JL Γ bX (fun s => some ([], s)) r Γ := fun s σ v s' hs e => by cases e; exact ⟨[], σ, rfl, .nil, hs⟩
theorem cV {r : Rl α} {ca : DA} {f : S -> Option (α × S)} {g : S -> Option (List α × S)} (h1 : JE Γ c f r Γ1) (h2 : JL Γ1 ca g r Γ2) : JL Γ (aD c ca) (fun s => (f s).bind fun p => (g p.2).map fun q => (p.1 :: q.1, q.2)) r Γ2 := fun s σ v s' hs e => by
 obtain ⟨⟨a, s1⟩, e1, e⟩ := bd e;obtain ⟨⟨b, s2⟩, e2, e⟩ := mp e;cases e;obtain ⟨x, σ1, hx, rx, k1⟩ := h1 s σ a s1 hs e1;obtain ⟨ys, σ2, hy, ry, k2⟩ := h2 s1 σ1 b s2 k1 e2;exact ⟨x :: ys, σ2, by simp only [aD, hx, hy, bind_some, map_some], .cons rx ry, k2⟩
theorem dE {r : Rl α} {ca : DA} {f : S -> Option (List α × S)} (h : JL Γ ca f r Γ1) : JE Γ (eC ca) (fun s => (f s).bind fun p => if gZ (p.1.length) = true then some p else none) (rL r) Γ1 := fun s σ v s' hs e => by
 obtain ⟨⟨a, s1⟩, e1, e⟩ := bd e;obtain ⟨ds, σ1, hx, rx, k1⟩ := h s σ a s1 hs e1;dsimp only at e;split at e
 ·rename_i hl
  have hl := rQ hl;cases e;exact ⟨_, σ1, by simp only [eC, hx, bind_some, <- rx.len, hl, if_true], ⟨ds, rfl, rx⟩, k1⟩
 ·cases e
theorem FX {n : Nat} (h : n <= 100) : n <= sizeLine := Nat.le_of_lt (L2.small1000 oM)
theorem kv {c : DE} {ca : DA} {σ σ1 σ2 : ar} {x : D} {xs : List D} (h : c σ = some (x, σ1)) (h' : ca σ1 = some (xs, σ2)) : aD c ca σ = some (x :: xs, σ2) := by
 simp only [aD, h, h', bind_some, map_some]
theorem vf {ca : DA} {σ σ1 : ar} {xs : List D} (h : ca σ = some (xs, σ1)) (hl : xs.length <= 100) : jy ca σ = some (.tup xs, σ1) := by
 simp only [jy, h, bind_some, FX hl, if_true]
theorem z3 {a b : DE} {ra : Rl α} {rb : Rl β} {f : S -> Option (α × S)} {g : S -> Option (β × S)} (h1 : JE Γ a f ra Γ1) (h2 : JE Γ1 b g rb Γ2) : JE Γ (jy (aD a (aD b bX))) (fun s => (f s).bind fun p => (g p.2).map fun q => ((p.1, q.1), q.2)) (fm ra rb) Γ2 := fun s σ v s' hs e => by
 obtain ⟨⟨a, s1⟩, e1, e⟩ := bd e;obtain ⟨⟨b, s2⟩, e2, e⟩ := mp e;cases e;obtain ⟨x, σ1, hx, rx, k1⟩ := h1 s σ a s1 hs e1;obtain ⟨y, σ2, hy, ry, k2⟩ := h2 s1 σ1 b s2 k1 e2;exact ⟨_, σ2, vf (kv hx (kv hy rfl)) (Nat.le_of_ble_eq_true rfl), ⟨x, y, rfl, rx, ry⟩, k2⟩
theorem wa {a b d : DE} {ra : Rl α} {rb : Rl β} {rd : Rl γ} {f : S -> Option (α × S)} {g : S -> Option (β × S)} {h : S -> Option (γ × S)} (h1 : JE Γ a f ra Γ1) (h2 : JE Γ1 b g rb Γ2) (h3 : JE Γ2 d h rd Γ3) :
  JE Γ (jy (aD a (aD b (aD d bX)))) (fun s => (f s).bind fun p => (g p.2).bind fun q => (h q.2).map fun o => ((p.1, q.1, o.1), o.2)) (du ra rb rd) Γ3 := fun s σ v s' hs e => by
 obtain ⟨⟨a, s1⟩, e1, e⟩ := bd e;obtain ⟨⟨b, s2⟩, e2, e⟩ := bd e;obtain ⟨⟨w, s3⟩, e3, e⟩ := mp e;cases e;obtain ⟨x, σ1, hx, rx, k1⟩ := h1 s σ a s1 hs e1;obtain ⟨y, σ2, hy, ry, k2⟩ := h2 s1 σ1 b s2 k1 e2;obtain ⟨z, σ3, hz, rz, k3⟩ := h3 s2 σ2 w s3 k2 e3;exact ⟨_, σ3, vf (kv hx (kv hy (kv hz rfl))) (Nat.le_of_ble_eq_true rfl), ⟨x, y, z, rfl, rx, ry, rz⟩, k3⟩
theorem z7 {g : List D -> Option D} {h : α -> Option γ} {ra : Rl α} {rc : Rl γ} {f : S -> Option (α × S)} (o : nh g h ra rc) (h1 : JE Γ c f ra Γ1) : JE Γ (iz g (aD c bX)) (fun s => (f s).bind fun p => (h p.1).map fun v => (v, p.2)) rc Γ1 := fun s σ v s' hs e => by
 obtain ⟨⟨a, s1⟩, e1, e⟩ := bd e;obtain ⟨w, e3, e⟩ := mp e;cases e;obtain ⟨x, σ1, hx, rx, k1⟩ := h1 s σ a s1 hs e1;obtain ⟨z, hz, rz⟩ := o a v x e3 rx;exact ⟨z, σ1, by simp only [iz, aD, bX, hx, bind_some, map_some, hz], rz, k1⟩
theorem All2.sc {r : Rl α} [k : Sc r] : ∀ {as : List α} {ds : List D}, All2 r as ds -> gi ds = true
 | _, _, .nil => rfl
 | _, _, .cons h t => by
  obtain ⟨w, hw⟩ := k.s _ _ h
  have := All2.sc t
  unfold gi at this ⊢;rw [List.all_cons, hw, this]; rfl
noncomputable def nw (len : Nat) (n : Int) : Bool := Nat.ble n.natAbs 16777216 && Nat.ble (len * n.toNat) 16777216
theorem AH {len : Nat} {n : Int} (h : nw len n = true) : -(2 ^ 63) <= n /\ n < 2 ^ 63 /\ len * n.toNat <= sizeLine := by
 simp only [nw, Bool.and_eq_true, Nat.ble_eq] at h;refine ⟨by omega, by omega, ?_⟩;have e : sizeLine = 16777216 := by decide
 rw [e]; exact h.2
theorem sZ {r : Rl α} [k : Sc r] {f : S -> Option (List α × S)} {g : S -> Option (Int × S)} (h1 : JE Γ c f (rL r) Γ1) (h2 : JE Γ1 c' g rI Γ2) : JE Γ (nK c c') (fun s => (f s).bind fun p => (g p.2).bind fun q => if nw p.1.length q.1 = true then some ((List.replicate q.1.toNat p.1).flatten, q.2) else none) (rL r) Γ2 := fun s σ v s' hs e => by
 obtain ⟨⟨a, s1⟩, e1, e⟩ := bd e;obtain ⟨⟨b, s2⟩, e2, e⟩ := bd e;dsimp only at e;split at e
 ·rename_i hl
  cases e;obtain ⟨x, σ1, hx, ⟨xs, rfl, rx⟩, k1⟩ := h1 s σ a s1 hs e1;obtain ⟨y, σ2, hy, ry, k2⟩ := h2 s1 σ1 b _ k1 e2;cases ry;have hsc : gi xs = true := rx.sc;have hl := AH hl;refine ⟨_, σ2, ?_, ⟨_, rfl, rx.flat b.toNat⟩, k2⟩;simp only [nK, hx, hy, bind_some];exact if_pos ⟨hsc, hl.1, hl.2.1, by rw [<- rx.len]; exact hl.2.2⟩
 ·cases e
noncomputable def vv (Γ : aA S) (p : Option DP) (f : S -> Option (Option Int)) : Prop := ∀ s σ v, Sat Γ s σ -> f s = some v -> kj p σ = some v
theorem jp : vv Γ none (fun _ => some none) := fun s σ v hs e => by cases e; rfl
theorem gq {p : DP} {f : S -> Option Int} (h : JP Γ p f rI) : vv Γ (some p) (fun s => (f s).map some) := fun s σ v hs e => by
 obtain ⟨a, e1, e2⟩ := mp e;obtain ⟨x, hx, rx⟩ := h s σ a hs e1;cases rx; cases e2;simp only [kj, hx, bind_some]
theorem All2.cut {r : Rl α} {as : List α} {ds : List D} (h : All2 r as ds) (lo hi : Option Int) : All2 r (jB as lo hi) (jB ds lo hi) := by
 unfold jB;rw [h.len];exact (h.drop _).take _
theorem Sat.put {i : Nat} {get : S -> α} {put : S -> α -> S} {r : Rl α} {s : S} {σ : ar} {v : α} {d : D} (hs : Sat Γ s σ) (hg : ∀ s v, get (put s v) = v) (hf : ∀ v, Fr (fun s => put s v) (Γ.set i none)) (h : r v d) : Sat (Γ.set i (some ⟨get, r⟩)) (put s v) (σ.set i (some d)) := by
 have h1 := (hf v).sat (On.setn (i := i) hs);have h2 := h1.set (i := i) (l := some ⟨get, r⟩) (o := some d) ⟨d, rfl, by rw [show (Sl.mk get r).get = get from rfl, hg]; exact h⟩;rw [List.set_set] at h2;exact h2
theorem mK (i : Nat) {get : S -> List α} {put : S -> List α -> S} {rl : Rl (List α)} {r q : Rl α} [l : Ls rl q] {f : S -> Option (α × S)} (h : JE Γ c f r Γ1) (h0 : Γ[i]? = some (some ⟨get, rl⟩)) (hi : Γ1[i]? = some (some ⟨get, rL r⟩)) (hg : autoParam (∀ s v, get (put s v) = v) jP._auto_1) (hf : autoParam (∀ v, Fr (fun s => put s v) (Γ1.set i none)) j3._auto_1) :
  JE Γ (jM i c) (fun s => (f s).bind fun p => if zT ((get p.2).length) = true then some ((), put p.2 (get p.2 ++ [p.1])) else none) rN (Γ1.set i (some ⟨get, rL r⟩)) := fun s σ v s' hs e => by
 obtain ⟨⟨a, s1⟩, e1, e⟩ := bd e;dsimp only at e;split at e
 ·rename_i hl
  have hl := xD hl;cases e;obtain ⟨x, σ1, hx, rx, k1⟩ := h s σ a s1 hs e1;obtain ⟨d0, hd0, h00⟩ := hs.get h0;obtain ⟨o0, ds0, rfl, _⟩ := l.l _ _ h00;obtain ⟨d, hd, ds, rfl, h2⟩ := k1.get hi;exact ⟨.non, _, by simp only [jM, hd0, hx, bind_some, hd, <- h2.len, hl, if_true], rfl, k1.put hg hf ⟨_, rfl, h2.append (.cons rx .nil)⟩⟩
 ·cases e
theorem bt {f : S -> Option (Bool × S)} (h : JE Γ c f rB Γ1) : JT Γ (aL c) f Γ1 := fun s σ v s' hs e => by
 obtain ⟨d, σ1, h1, h2, h3⟩ := h s σ v s' hs e;cases h2;exact ⟨σ1, by simp only [aL, h1, bind_some], h3⟩
theorem gN {f : S -> Option (Bool × S)} (h : JT Γ t f Γ1) : JT Γ (fF t) (fun s => (f s).map fun p => (!p.1, p.2)) Γ1 := fun s σ v s' hs e => by
 obtain ⟨⟨a, s1⟩, e1, e2⟩ := mp e;obtain ⟨σ1, h1, h2⟩ := h s σ a s1 hs e1;cases e2;exact ⟨σ1, by simp only [fF, h1, map_some], h2⟩
theorem xJ {f g : S -> Option (Bool × S)} (h1 : JT Γ t f Γ1) (h2 : JT Γ1 u g Γ2) (l : autoParam (Le Γ1 Γ') j4._auto_1) (l2 : autoParam (Le Γ2 Γ') j4._auto_1) : JT Γ (kC t u) (fun s => (f s).bind fun p => if p.1 = true then g p.2 else some (false, p.2)) Γ' := fun s σ v s' hs e => by
 obtain ⟨⟨a, s1⟩, e1, e2⟩ := bd e;obtain ⟨σ1, hx, k1⟩ := h1 s σ a s1 hs e1;cases a
 ·simp only [Bool.false_eq_true, if_false] at e2
  cases e2;exact ⟨σ1, by simp only [kC, hx, bind_some, Bool.false_eq_true, if_false], l.sat k1⟩
 ·simp only [if_true] at e2
  obtain ⟨σ2, hy, k2⟩ := h2 s1 σ1 v s' k1 e2;exact ⟨σ2, by simp only [kC, hx, bind_some, hy, if_true], l2.sat k2⟩
theorem ia {f g : S -> Option (Bool × S)} (h1 : JT Γ t f Γ1) (h2 : JT Γ1 u g Γ2) (l : autoParam (Le Γ1 Γ') j4._auto_1) (l2 : autoParam (Le Γ2 Γ') j4._auto_1) : JT Γ (gm t u) (fun s => (f s).bind fun p => if p.1 = true then some (true, p.2) else g p.2) Γ' := fun s σ v s' hs e => by
 obtain ⟨⟨a, s1⟩, e1, e2⟩ := bd e;obtain ⟨σ1, hx, k1⟩ := h1 s σ a s1 hs e1;cases a
 ·simp only [Bool.false_eq_true, if_false] at e2
  obtain ⟨σ2, hy, k2⟩ := h2 s1 σ1 v s' k1 e2;exact ⟨σ2, by simp only [gm, hx, bind_some, hy, Bool.false_eq_true, if_false], l2.sat k2⟩
 ·simp only [if_true] at e2
  cases e2;exact ⟨σ1, by simp only [gm, hx, bind_some, if_true], l.sat k1⟩
theorem mI : JT Γ mw (fun s => some (true, s)) Γ := fun s σ v s' hs e => by cases e; exact ⟨σ, rfl, hs⟩
noncomputable def tSeq (f g : S -> Option (TR S ρ)) : S -> Option (TR S ρ) := fun s => (f s).bind fun r => match r with | .nx s' => g s' | .rt v s' => some (.rt v s') | .bk s' => some (.bk s') | .ct s' => some (.ct s')
theorem cU {c : DS} : JS Γ c (fun _ => none) Γn E := fun s σ v hs e => by cases e
theorem am {a b : DS} {f g : S -> Option (TR S ρ)} (h1 : JS Γ a f Γ1 E) (h2 : JS Γ1 b g Γ2 E) : JS Γ (aE a b) (tSeq f g) Γ2 E := fun s σ v hs e => by
 obtain ⟨r, e1, e2⟩ := bd e;obtain ⟨o, ho, ro⟩ := h1 s σ r hs e1;cases r with
 | nx s' =>
  cases o with
  | nx σ' =>
   obtain ⟨o2, h3, r3⟩ := h2 s' σ' v ro e2;exact ⟨o2, by simp only [aE, ho, bind_some, h3], r3⟩
  | _ => exact ro.elim
 | rt w s' =>
  cases e2;cases o with
  | rt d σ' => exact ⟨.rt d σ', by simp only [aE, ho, bind_some], ro⟩
  | _ => exact ro.elim
 | bk s' =>
  cases e2;cases o with
  | bk σ' => exact ⟨.bk σ', by simp only [aE, ho, bind_some], ro⟩
  | _ => exact ro.elim
 | ct s' =>
  cases e2;cases o with
  | ct σ' => exact ⟨.ct σ', by simp only [aE, ho, bind_some], ro⟩
  | _ => exact ro.elim
theorem zX {a : DS} {f : S -> Option (TR S ρ)} (h : JS Γ a f Γ1 E) (l : Le Γ1 Γn) : JS Γ a f Γn E := fun s σ v hs e => by
 obtain ⟨o, ho, ro⟩ := h s σ v hs e;refine ⟨o, ho, ?_⟩;cases v <;> cases o <;> first | exact l.sat ro | exact ro
theorem ba (i : Nat) {get : S -> α} {put : S -> α -> S} {r : Rl α} {f : S -> Option (α × S)} (h : JE Γ c f r Γ1) (hg : autoParam (∀ s v, get (put s v) = v) jP._auto_1) (hf : autoParam (∀ v, Fr (fun s => put s v) (Γ1.set i none)) j3._auto_1) (hi : autoParam (i < Γ1.length) cx._auto_1) :
  JS Γ (bN i c) (fun s => (f s).map fun p => .nx (put p.2 p.1)) (Γ1.set i (some ⟨get, r⟩)) E := fun s σ v hs e => by
 obtain ⟨⟨a, s1⟩, e1, e2⟩ := mp e;cases e2;obtain ⟨d, σ1, h1, h2, h3⟩ := h s σ a s1 hs e1;have hl : i < σ1.length := by rw [h3.len]; exact hi
 exact ⟨.nx (σ1.set i (some d)), by simp only [bN, h1, bind_some, hl, if_true], h3.put hg hf h2⟩
theorem cw {a b : DS} {ft : S -> Option (Bool × S)} {f g : S -> Option (TR S ρ)} (h0 : JT Γ t ft Γ0) (h1 : JS Γ0 a f Γ1 E) (h2 : JS Γ0 b g Γ2 E) (l1 : autoParam (Le Γ1 Γ') j4._auto_1) (l2 : autoParam (Le Γ2 Γ') j4._auto_1) : JS Γ (dr t a b) (fun s => (ft s).bind fun p => if p.1 = true then f p.2 else g p.2) Γ' E := fun s σ v hs e => by
 obtain ⟨⟨b, s1⟩, e1, e2⟩ := bd e;obtain ⟨σ1, hx, k1⟩ := h0 s σ b s1 hs e1;cases b
 ·simp only [Bool.false_eq_true, if_false] at e2
  obtain ⟨o, ho, ro⟩ := (zX h2 l2) s1 σ1 v k1 e2;exact ⟨o, by simp only [dr, hx, bind_some, ho, Bool.false_eq_true, if_false], ro⟩
 ·simp only [if_true] at e2
  obtain ⟨o, ho, ro⟩ := (zX h1 l1) s1 σ1 v k1 e2;exact ⟨o, by simp only [dr, hx, bind_some, ho, if_true], ro⟩
theorem bb {r : Rl ρ} {f : S -> Option (ρ × S)} (h : JE Γ c f r Γ1) (w : autoParam (Wk r E.ro) FM._auto_1) (l : autoParam (Le Γ1 E.rt) j4._auto_1) : JS Γ (bV c) (fun s => (f s).map fun p => .rt p.1 p.2) Γn E := fun s σ v hs e => by
 obtain ⟨⟨a, s1⟩, e1, e2⟩ := mp e;cases e2;obtain ⟨d, σ1, h1, h2, h3⟩ := h s σ a s1 hs e1;exact ⟨.rt d σ1, by simp only [bV, h1, map_some], w.w _ _ h2, l.sat h3⟩
theorem iY {r : Rl α} {f : S -> Option (α × S)} (h : JE Γ c f r Γ1) : JS Γ (hV c) (fun s => (f s).map fun p => .nx p.2) Γ1 E := fun s σ v hs e => by
 obtain ⟨⟨a, s1⟩, e1, e2⟩ := mp e;cases e2;obtain ⟨d, σ1, h1, h2, h3⟩ := h s σ a s1 hs e1;exact ⟨.nx σ1, by simp only [hV, h1, map_some], h3⟩
theorem bL : JS Γ cy (fun s => some (.nx s)) Γ E := fun s σ v hs e => by cases e; exact ⟨_, rfl, hs⟩
theorem All2.ix {r : Rl α} {as : List α} {ds : List D} (h : All2 r as ds) {i : Int} : ixN ds.length i = ixN as.length i := by rw [h.len]
theorem Bm (i : Nat) {get : S -> List α} {put : S -> List α -> S} {r : Rl α} {rb : Rl β} [k : Sc r] {g : D -> D -> Option D} {h : α -> β -> Option α} {q p : DP} {fq : S -> Option Int} {f : S -> Option β} (o : JO g h r rb r) (hq : JP Γ q fq rI) (h1 : JP Γ p f rb) (h0 : Γ[i]? = some (some ⟨get, rL r⟩)) (hg : autoParam (∀ s v, get (put s v) = v) jP._auto_1) (hf : autoParam (∀ v, Fr (fun s => put s v) (Γ.set i none)) j3._auto_1) :
  JS Γ (lm g i [] q p) (fun s => (fq s).bind fun kk => (ixN (get s).length kk).bind fun j => ((get s)[j]?).bind fun x => (f s).bind fun y => (h x y).map fun z => .nx (put s ((get s).set j z))) (Γ.set i (some ⟨get, rL r⟩)) E := fun s σ v hs e => by
 obtain ⟨kk, e1, e⟩ := bd e;obtain ⟨j, e2, e⟩ := bd e;obtain ⟨x, e3, e⟩ := bd e;obtain ⟨y, e4, e⟩ := bd e;obtain ⟨z, e5, e⟩ := mp e;cases e;obtain ⟨d, hd, ds, rfl, h2⟩ := hs.get h0;obtain ⟨dq, hdq, rq⟩ := hq s σ kk hs e1;cases rq;obtain ⟨dx, hdx, rx⟩ := h2.get e3;obtain ⟨wv, hw⟩ := k.s _ _ rx;obtain ⟨dy, hdy, ry⟩ := h1 s σ y hs e4;obtain ⟨dz, hdz, rz⟩ := o _ _ _ _ _ e5 rx ry;exact ⟨.nx _, by simp only [lm, hd, gz, cF, bind_some, hdq, h2.ix, e2, hdx, hw, hdy, hdz, map_some, dO], hs.put hg hf ⟨_, rfl, h2.set rz⟩⟩
theorem eG (i : Nat) {get : S -> α} {put : S -> α -> S} {r : Rl α} (hg : autoParam (∀ s v, get (put s v) = v) jP._auto_1) (hf : autoParam (∀ v, Fr (fun s => put s v) (Γ.set i none)) j3._auto_1) (hi : autoParam (i < Γ.length) cx._auto_1) : JG Γ (dF i) put r (Γ.set i (some ⟨get, r⟩)) := fun s σ v d hs h => by
 have hl : i < σ.length := by rw [hs.len]; exact hi
 exact ⟨_, by simp only [dF, hl, if_true], hs.put hg hf h⟩
theorem qX {g1 g2 : DG} {p1 : S -> α -> S} {p2 : S -> β -> S} {ra : Rl α} {rb : Rl β} (h1 : JG Γ g1 p1 ra Γ1) (h2 : JG Γ1 g2 p2 rb Γ2) : JG Γ (gg 2 (cL g1 (cL g2 gT))) (fun s v => p2 (p1 s v.1) v.2) (fm ra rb) Γ2 := fun s σ v d hs hq0 => by
 obtain ⟨x, y, e, hx, hy⟩ := hq0;obtain ⟨σ1, e1, k1⟩ := h1 s σ v.1 x hs hx;obtain ⟨σ2, e2, k2⟩ := h2 _ σ1 v.2 y k1 hy;exact ⟨σ2, by simp only [e, gg, cL, gT, List.length_cons, List.length_nil, e1, e2, bind_some, if_true], k2⟩
theorem uZ (i : Nat) {get : S -> List α} {put : S -> List α -> S} {r : Rl α} {q : DP} {fq : S -> Option Int} {f : S -> Option (α × S)} (h : JE Γ c f r Γ1) (hq : JP Γ1 q fq rI) (h0 : Γ1[i]? = some (some ⟨get, rL r⟩)) (hg : autoParam (∀ s v, get (put s v) = v) jP._auto_1) (hf : autoParam (∀ v, Fr (fun s => put s v) (Γ1.set i none)) j3._auto_1) :
  JS Γ (pw c (pP i [] q)) (fun s => (f s).bind fun p => (fq p.2).bind fun kk => (ixN (get p.2).length kk).map fun j => .nx (put p.2 ((get p.2).set j p.1))) (Γ1.set i (some ⟨get, rL r⟩)) E := fun s σ v hs e => by
 obtain ⟨⟨a, s1⟩, e1, e⟩ := bd e;obtain ⟨kk, e2, e⟩ := bd e;obtain ⟨j, e3, e⟩ := mp e;cases e;obtain ⟨d, σ1, h1, h2, h3⟩ := h s σ a s1 hs e1;obtain ⟨dq, hdq, rq⟩ := hq s1 σ1 kk h3 e2;cases rq;obtain ⟨d', hd, ds, rfl, h4⟩ := h3.get h0;dsimp only at e3;exact ⟨.nx _, by simp only [pw, h1, bind_some, pP, hd, gz, cF, hdq, h4.ix, e3, map_some, dO], h3.put hg hf ⟨_, rfl, h4.set h2⟩⟩
theorem jq {rl : Rl (List α)} {r r' : Rl α} [l : Ls rl r] [k : Fz r r'] {f : S -> Option (List α × S)} (h : JE Γ c f rl Γ1) : JI Γ (ju c) f r' Γ1 := fun s σ v s' hs e => by
 obtain ⟨d, σ1, h1, h2, h3⟩ := h s σ v s' hs e;obtain ⟨o, ds, rfl, h⟩ := l.l v d h2;exact ⟨_, σ1, by simp only [ju, h1, bind_some], h.fz k.f, h3⟩
noncomputable def rng (lo hi : Int) : List Int := (List.range (hi - lo).toNat).map fun (k : Nat) => lo + k
theorem wR (lo hi : Int) : All2 rI (rng lo hi) (jf lo hi) := by unfold rng jf; exact All2.ofMap (r := rI) (f := fun (k : Nat) => lo + k) (g := fun (k : Nat) => D.int (lo + k)) (fun _ => rfl) _
theorem qW {f : S -> Option (Int × S)} (h : JE Γ c f rI Γ1) : JI Γ (qg (aD c bX)) (fun s => (f s).bind fun p => if iE p.1 = true then some (rng 0 p.1, p.2) else none) rI Γ1 := fun s σ v s' hs e => by
 obtain ⟨⟨a, s1⟩, e1, e⟩ := bd e;dsimp only at e;split at e
 ·rename_i hl
  cases e;obtain ⟨d, σ1, h1, h2, h3⟩ := h s σ a _ hs e1;cases h2;refine ⟨_, σ1, ?_, wR _ _, h3⟩;simp only [qg, aD, bX, h1, bind_some, map_some];exact if_pos (px hl)
 ·cases e
theorem zZ {f g : S -> Option (Int × S)} (h : JE Γ c f rI Γ1) (h' : JE Γ1 c' g rI Γ2) : JI Γ (vb (aD c (aD c' bX))) (fun s => (f s).bind fun p => (g p.2).bind fun q => if (iE p.1 && iE q.1) = true then some (rng p.1 q.1, q.2) else none) rI Γ2 := fun s σ v s' hs e => by
 obtain ⟨⟨a, s1⟩, e1, e⟩ := bd e;obtain ⟨⟨b, s2⟩, e2, e⟩ := bd e;dsimp only at e;split at e
 ·rename_i hl
  cases e;obtain ⟨d, σ1, h1, h2, h3⟩ := h s σ a s1 hs e1;obtain ⟨d', σ2, h4, h5, h6⟩ := h' s1 σ1 b _ h3 e2;cases h2; cases h5;refine ⟨_, σ2, ?_, wR _ _, h6⟩;simp only [vb, aD, bX, h1, h4, bind_some, map_some];simp only [Bool.and_eq_true] at hl;exact if_pos (by rw [px hl.1, px hl.2]; rfl)
 ·cases e
theorem BI {ra ra' : Rl α} {rb rb' : Rl β} (ka : ∀ a d, ra a d -> ra' a d.fz) (kb : ∀ a d, rb a d -> rb' a d.fz) : ∀ {as : List α} {bs : List β} {ds es : List D}, All2 ra as ds -> All2 rb bs es -> All2 (fm ra' rb') (as.zip bs) (((D.fzL ds).zip (D.fzL es)).map fun z => .tup [z.1, z.2]) := by
 intro as bs ds es h
 induction h generalizing bs es with
 | nil => intro _; simp only [List.zip_nil_left, D.fzL, List.map_nil]; exact .nil
 | cons h1 t1 ih =>
  intro k;cases k with
  | nil => simp only [List.zip_nil_right, D.fzL, List.map_nil]; exact .nil
  | cons h2 t2 =>
   simp only [List.zip_cons_cons, D.fzL, List.map_cons];exact .cons ⟨_, _, rfl, ka _ _ h1, kb _ _ h2⟩ (ih t2)
theorem CS {rl : Rl (List α)} {ra ra' : Rl α} {rm : Rl (List β)} {rb rb' : Rl β} [l : Ls rl ra] [k : Fz ra ra'] [l2 : Ls rm rb] [k2 : Fz rb rb'] {f : S -> Option (List α × S)} {g : S -> Option (List β × S)} (h : JE Γ c f rl Γ1) (h' : JE Γ1 c' g rm Γ2) : JI Γ (om c c') (fun s => (f s).bind fun p => (g p.2).map fun q => (p.1.zip q.1, q.2)) (fm ra' rb') Γ2 := fun s σ v s' hs e => by
 obtain ⟨⟨a, s1⟩, e1, e⟩ := bd e;obtain ⟨⟨b, s2⟩, e2, e⟩ := mp e;cases e;obtain ⟨d, σ1, h1, h2, h3⟩ := h s σ a s1 hs e1;obtain ⟨d', σ2, h4, h5, h6⟩ := h' s1 σ1 b s2 h3 e2;obtain ⟨o, ds, rfl, hh⟩ := l.l a d h2;obtain ⟨o', ds', rfl, hh'⟩ := l2.l b d' h5;exact ⟨_, σ2, by simp only [om, h1, h4, bind_some], BI k.f k2.f hh hh', h6⟩
noncomputable def cD (put : S -> α -> S) (b : S -> Option (TR S ρ)) : List α -> S -> Option (TR S ρ)
 | [], s => some (.nx s)
 | x :: xs, s => (b (put s x)).bind fun o => match o with
  | .nx s2 => cD put b xs s2
  | .ct s2 => cD put b xs s2
  | .bk s2 => some (.nx s2)
  | .rt d s2 => some (.rt d s2)
theorem Bi {g : DG} {put : S -> α -> S} {r : Rl α} {b : DS} {fb : S -> Option (TR S ρ)} {Γx Γb : aA S} (hg : JG Γh g put r Γx) (hb : JS Γx b fb Γb ⟨E.rt, E.ro, Γh⟩) (lb : Le Γb Γh) : ∀ {xs : List α} {ds : List D} {s : S} {σ : ar} {t : TR S ρ}, All2 r xs ds -> Sat Γh s σ -> cD put fb xs s = some t -> ∃ o, eI g b ds σ = some o /\ Rs Γh E t o := by
 intro xs ds s σ t h0
 induction h0 generalizing s σ t with
 | nil => intro hs e; cases e; exact ⟨_, rfl, hs⟩
 | cons h1 h2 ih =>
  intro hs e;simp only [cD] at e;obtain ⟨o, e1, e⟩ := bd e;obtain ⟨σ1, g1, k1⟩ := hg s σ _ _ hs h1;obtain ⟨o', b1, r1⟩ := hb _ σ1 o k1 e1;cases o with
  | nx s2 =>
   cases o' with
   | nx σ2 =>
    obtain ⟨o2, c1, c2⟩ := ih (lb.sat r1) e;exact ⟨o2, by simp only [eI, g1, bind_some, b1, c1], c2⟩
   | _ => exact r1.elim
  | ct s2 =>
   cases o' with
   | ct σ2 =>
    obtain ⟨o2, c1, c2⟩ := ih r1 e;exact ⟨o2, by simp only [eI, g1, bind_some, b1, c1], c2⟩
   | _ => exact r1.elim
  | bk s2 =>
   cases e;cases o' with
   | bk σ2 => exact ⟨.nx σ2, by simp only [eI, g1, bind_some, b1], r1⟩
   | _ => exact r1.elim
  | rt d s2 =>
   cases e;cases o' with
   | rt d' σ2 => exact ⟨.rt d' σ2, by simp only [eI, g1, bind_some, b1], r1⟩
   | _ => exact r1.elim
theorem fw {i : DI} {g : DG} {put : S -> α -> S} {r : Rl α} {b : DS} {fi : S -> Option (List α × S)} {fb : S -> Option (TR S ρ)} {Γx Γb : aA S} (hi : JI Γ i fi r Γ1) (l : Le Γ1 Γh) (hg : JG Γh g put r Γx) (hb : JS Γx b fb Γb ⟨E.rt, E.ro, Γh⟩) (lb : autoParam (Le Γb Γh) j4._auto_1) :
  JS Γ (eD i g b) (fun s => (fi s).bind fun p => cD put fb p.1 p.2) Γh E := fun s σ v hs e => by
 obtain ⟨⟨xs, s1⟩, e1, e⟩ := bd e;obtain ⟨ds, σ1, h1, h2, h3⟩ := hi s σ xs s1 hs e1;obtain ⟨o, h4, h5⟩ := Bi hg hb lb h2 (l.sat h3) e;exact ⟨o, by simp only [eD, h1, bind_some, h4], h5⟩
end
section
variable {S : Type} {α β γ δ ρ : Type} {Γ Γ0 Γ1 Γ2 Γ3 Γ4 Γ' Γn Γh : aA S} {c c' : DE} {t u : DT} {E : Ex S ρ}
theorem Sat.app : ∀ {Γ Δ : aA S} {s : S} {σ τ : ar}, Sat Γ s σ -> Sat Δ s τ -> Sat (Γ ++ Δ) s (σ ++ τ)
 | [], _, _, [], _, _, h => h
 | _ :: Γ, _, _, _ :: σ, _, h, k => ⟨h.1, Sat.app h.2 k⟩
 | [], _, _, _ :: _, _, h, _ => h.elim
 | _ :: _, _, _, [], _, h, _ => h.elim
theorem Sat.split : ∀ {Γ Δ : aA S} {s : S} {σ : ar}, Sat (Γ ++ Δ) s σ -> ∃ σ1 σ2, σ = σ1 ++ σ2 /\ Sat Γ s σ1 /\ Sat Δ s σ2
 | [], _, _, σ, h => ⟨[], σ, rfl, trivial, h⟩
 | _ :: Γ, _, _, x :: σ, h => by
  obtain ⟨σ1, σ2, e, h1, h2⟩ := Sat.split (Γ := Γ) h.2;exact ⟨x :: σ1, σ2, by rw [e]; rfl, ⟨h.1, h1⟩, h2⟩
 | _ :: _, _, _, [], h => h.elim
theorem Sat.non {s : S} : ∀ {k : Nat} {σ : ar}, σ.length = k -> Sat (List.replicate k none) s σ
 | 0, [], _ => trivial
 | k + 1, _ :: σ, h => ⟨trivial, Sat.non (k := k) (by simpa using h)⟩
noncomputable def j5 (ft : α -> S -> Option (Bool × S)) (fe : α -> S -> Option (β × S)) : List α -> S -> Option (List β × S)
 | [], s => some ([], s)
 | x :: xs, s => (ft x s).bind fun p => if p.1 = true then (fe x p.2).bind fun q => (j5 ft fe xs q.2).map fun r => (q.1 :: r.1, r.2) else j5 ft fe xs p.2
noncomputable def Am (Γ : aA S) (k : Nat) (g : DG) (r : Rl α) (Δ : α -> aA S) : Prop := ∀ s σ v d, Sat (Γ ++ List.replicate k none) s σ -> r v d -> ∃ σ', g d σ = some σ' /\ Sat (Γ ++ Δ v) s σ'
theorem pv {A : List (Option D)} {a b : Option D} {B : ar} : (A ++ a :: B).set A.length b = A ++ b :: B := by
 rw [List.set_append_right _ _ (Nat.le_refl _)]; simp
theorem sY {r : Rl α} (i : Nat) (hi : i = Γ.length) : Am Γ 1 (dF i) r (fun v => [some ⟨fun _ => v, r⟩]) := fun s σ v d hs h => by
 obtain ⟨σ1, σ2, rfl, h1, h2⟩ := hs.split
 match σ2, h2 with
 | [o], _ =>
  have hl : σ1.length = i := by rw [h1.len, hi]
  have hl2 : i < (σ1 ++ [o]).length := by simp [hl]
  refine ⟨σ1 ++ [some d], ?_, h1.app ⟨⟨d, rfl, h⟩, trivial⟩⟩;simp only [dF, hl2, if_true];rw [<- hl, pv]
theorem CU {ra : Rl α} {rb : Rl β} (i j : Nat) (hi : i = Γ.length) (hj : j = Γ.length + 1) : Am Γ 2 (gg 2 (cL (dF i) (cL (dF j) gT))) (fm ra rb) (fun v => [some ⟨fun _ => v.1, ra⟩, some ⟨fun _ => v.2, rb⟩]) := fun s σ v d hs hq0 => by
 obtain ⟨x, y, e, hx, hy⟩ := hq0;obtain ⟨σ1, σ2, rfl, h1, h2⟩ := hs.split
 match σ2, h2 with
 | [o, o'], _ =>
  have hl : σ1.length = i := by rw [h1.len, hi]
  have hl2 : i < (σ1 ++ [o, o']).length := by simp [hl]
  have hl3 : j < (σ1 ++ [some x, o']).length := by simp [hl]; omega
  refine ⟨σ1 ++ [some x, some y], ?_, h1.app ⟨⟨x, rfl, hx⟩, ⟨y, rfl, hy⟩, trivial⟩⟩;have e1 : (σ1 ++ [o, o']).set i (some x) = σ1 ++ [some x, o'] := by rw [<- hl, pv]
  have e2 : (σ1 ++ [some x, o']).set j (some y) = σ1 ++ [some x, some y] := by
   have h3 : j = (σ1 ++ [some x]).length := by simp; omega
   rw [show σ1 ++ [some x, o'] = (σ1 ++ [some x]) ++ [o'] by simp, h3, pv]; simp
  simp only [e, gg, cL, gT, dF, List.length_cons, List.length_nil, if_true, hl2, e1, bind_some, hl3, e2]
theorem Er {k : Nat} {g : DG} {r : Rl α} {re : Rl β} {Δ : α -> aA S} {ft : α -> S -> Option (Bool × S)} {fe : α -> S -> Option (β × S)} {Γt Γe : α -> aA S} (hg : Am Γh k g r Δ) (ht : ∀ x, JT (Γh ++ Δ x) t (ft x) (Γt x)) (l1 : ∀ x, Le (Γt x) (Γh ++ List.replicate k none)) (he : ∀ x, JE (Γt x) c (fe x) re (Γe x)) (l2 : ∀ x, Le (Γe x) (Γh ++ List.replicate k none)) :
  ∀ {xs : List α} {ds : List D} {s : S} {σ : ar} {ys : List β} {s' : S}, All2 r xs ds -> Sat (Γh ++ List.replicate k none) s σ -> j5 ft fe xs s = some (ys, s') -> ∃ es σ', jW g t c ds σ = some (es, σ') /\ All2 re ys es /\ Sat (Γh ++ List.replicate k none) s' σ' := by
 intro xs ds s σ ys s' h0
 induction h0 generalizing s σ ys s' with
 | nil => intro hs e; cases e; exact ⟨[], σ, rfl, .nil, hs⟩
 | cons h1 h2 ih =>
  intro hs e;simp only [j5] at e;obtain ⟨⟨b, s1⟩, e1, e⟩ := bd e;obtain ⟨σ1, g1, k1⟩ := hg s σ _ _ hs h1;obtain ⟨σ2, g2, k2⟩ := ht _ s σ1 b s1 k1 e1;cases b
  ·simp only [Bool.false_eq_true, if_false] at e
   obtain ⟨es, σ3, g3, r3, k3⟩ := ih ((l1 _).sat k2) e;exact ⟨es, σ3, by simp only [jW, g1, bind_some, g2, Bool.false_eq_true, if_false, g3], r3, k3⟩
  ·simp only [if_true] at e
   obtain ⟨⟨v, s2⟩, e2, e⟩ := bd e;obtain ⟨⟨w, s3⟩, e3, e⟩ := mp e;cases e;obtain ⟨d, σ3, g3, r3, k3⟩ := he _ s1 σ2 v s2 k2 e2;obtain ⟨es, σ4, g4, r4, k4⟩ := ih ((l2 _).sat k3) e3;exact ⟨d :: es, σ4, by simp only [jW, g1, bind_some, g2, if_true, g3, g4, map_some], .cons r3 r4, k4⟩
theorem kL {k : Nat} {i : DI} {g : DG} {r : Rl α} {re : Rl β} {Δ : α -> aA S} {fi : S -> Option (List α × S)} {ft : α -> S -> Option (Bool × S)} {fe : α -> S -> Option (β × S)} {Γt Γe : α -> aA S} (hi : JI Γ i fi r Γ1) (l : Le Γ1 Γh) (hg : Am Γh k g r Δ) (ht : ∀ x, JT (Γh ++ Δ x) t (ft x) (Γt x)) (he : ∀ x, JE (Γt x) c (fe x) re (Γe x)) (l1 : autoParam (∀ x, Le (Γt x) (Γh ++ List.replicate k none)) Dx._auto_1) (l2 : autoParam (∀ x, Le (Γe x) (Γh ++ List.replicate k none)) Dx._auto_1) :
  JE Γ (iJ k i g t c) (fun s => (fi s).bind fun p => if gZ (p.1.length) = true then j5 ft fe p.1 p.2 else none) (rL re) Γh := fun s σ v s' hs e => by
 obtain ⟨⟨xs, s1⟩, e1, e⟩ := bd e;obtain ⟨ds, σ1, h1, h2, h3⟩ := hi s σ xs s1 hs e1;dsimp only at e;split at e
 ·rename_i hl
  have hl := rQ hl;have h4 := l.sat h3;obtain ⟨es, σ2, g2, r2, k2⟩ := Er hg ht l1 he l2 h2 (h4.app (Sat.non (k := k) (σ := List.replicate k none) (by simp))) e;obtain ⟨σa, σb, rfl, ka, kb⟩ := k2.split;refine ⟨_, σa, ?_, ⟨es, rfl, r2⟩, ka⟩;have hl2 : ds.length <= sizeLine := by rw [<- h2.len]; exact hl
  have hlen : σ1.length = σa.length := by rw [h4.len, ka.len]
  simp only [iJ, h1, bind_some, hl2, if_true, g2, map_some, hlen, List.take_left]
 ·cases e
noncomputable def Pn : Unit -> List D -> Prop := fun _ ds => ds = []
noncomputable def Pc (r : Rl α) (P : β -> List D -> Prop) : α × β -> List D -> Prop := fun p ds => ∃ d ds', ds = d :: ds' /\ r p.1 d /\ P p.2 ds'
noncomputable def JF {P : Type} (g : GF) (h : P -> Option (ρ × P)) (PI : P -> List D -> Prop) (ro : Rl ρ) (PO : P -> List D -> Prop) : Prop := ∀ p ds v q, PI p ds -> h p = some (v, q) -> ∃ d ds', g ds = some (d, ds') /\ ro v d /\ PO q ds'
noncomputable def vw {A : Type} (Γ : aA S) (as : List DD.Arg) (f : S -> Option (A × S)) (oe : A -> List (Option D) -> Prop) (Γ' : aA S) : Prop := ∀ s σ a s', Sat Γ s σ -> f s = some (a, s') -> ∃ os σ', mU as σ = some (os, σ') /\ oe a os /\ Sat Γ' s' σ'
noncomputable def o0 : Unit -> List (Option D) -> Prop := fun _ os => os = []
noncomputable def oB {A : Type} (oe : A -> List (Option D) -> Prop) : A -> List (Option D) -> Prop := fun a os => ∃ o', os = none :: o' /\ oe a o'
noncomputable def oX {A : Type} (r : Rl α) (oe : A -> List (Option D) -> Prop) : α × A -> List (Option D) -> Prop := fun a os => ∃ d o', os = some d :: o' /\ r a.1 d /\ oe a.2 o'
theorem aI : vw Γ [] (fun s => some ((), s)) o0 Γ := fun s σ a s' hs e => by cases e; exact ⟨[], σ, rfl, rfl, hs⟩
theorem aK {A : Type} (i : Nat) {as : List DD.Arg} {f : S -> Option (A × S)} {oe : A -> List (Option D) -> Prop} {l : Sl S} (hi : Γ[i]? = some (some l)) (h : vw Γ as f oe Γ') : vw Γ (.bo i :: as) f (oB oe) Γ' := fun s σ a s' hs e => by
 obtain ⟨os, σ', h1, h2, h3⟩ := h s σ a s' hs e;obtain ⟨d, hd, _⟩ := hs.get hi;exact ⟨none :: os, σ', by simp only [mU, hd, bind_some, h1, map_some], ⟨os, rfl, h2⟩, h3⟩
theorem bS {A : Type} {as : List DD.Arg} {f1 : S -> Option (α × S)} {f : S -> Option (A × S)} {oe : A -> List (Option D) -> Prop} {r : Rl α} (h0 : JE Γ c f1 r Γ1) (h : vw Γ1 as f oe Γ') : vw Γ (.ex c :: as) (fun s => (f1 s).bind fun p => (f p.2).map fun q => ((p.1, q.1), q.2)) (oX r oe) Γ' := fun s σ a s' hs e => by
 obtain ⟨⟨v, s1⟩, e1, e⟩ := bd e;obtain ⟨⟨b, s2⟩, e2, e⟩ := mp e;cases e;obtain ⟨d, σ1, g1, r1, k1⟩ := h0 s σ v s1 hs e1;obtain ⟨os, σ', h1, h2, h3⟩ := h s1 σ1 b s2 k1 e2;exact ⟨some d :: os, σ', by simp only [mU, g1, bind_some, h1, map_some], ⟨d, os, rfl, r1, h2⟩, h3⟩
noncomputable def qw {A P : Type} (Γ : aA S) (as : List DD.Arg) (oe : A -> List (Option D) -> Prop) (pk : A -> S -> P) (PI : P -> List D -> Prop) (Γ' : aA S) : Prop := ∀ s σ a os, Sat Γ s σ -> oe a os -> ∃ ds σ', fL as os σ = some (ds, σ') /\ PI (pk a s) ds /\ Sat Γ' s σ'
theorem aH : qw Γ [] o0 (fun _ _ => ()) Pn Γ := fun s σ a os hs e => by cases e; exact ⟨[], σ, rfl, rfl, hs⟩
theorem bE {A P : Type} (i : Nat) {as : List DD.Arg} {oe : A -> List (Option D) -> Prop} {pk : A -> S -> P} {PI : P -> List D -> Prop} {get : S -> α} {r r' : Rl α} [k : Sc r] [w : Wk r r'] (hi : Γ[i]? = some (some ⟨get, r⟩)) (h : qw Γ as oe pk PI Γ') : qw Γ (.bo i :: as) (oB oe) (fun a s => (get s, pk a s)) (Pc r' PI) Γ' := fun s σ a os hs hq0 => by
 obtain ⟨o', e, ho⟩ := hq0;obtain ⟨ds, σ', h1, h2, h3⟩ := h s σ a o' hs ho;obtain ⟨d, hd, rd⟩ := hs.get hi;obtain ⟨v, hv⟩ := k.s _ _ rd;exact ⟨d :: ds, σ', by simp only [e, fL, hd, bind_some, hv, h1, map_some], ⟨d, ds, rfl, w.w _ _ rd, h2⟩, h3⟩
theorem de {A P : Type} (i : Nat) {as : List DD.Arg} {oe : A -> List (Option D) -> Prop} {pk : A -> S -> P} {PI : P -> List D -> Prop} {get : S -> α} {r r' : Rl α} [k : Ns r] [w : Wk r r'] (hi : Γ[i]? = some (some ⟨get, r⟩)) (h : qw (Γ.set i none) as oe pk PI Γ') : qw Γ (.bo i :: as) (oB oe) (fun a s => (get s, pk a s)) (Pc r' PI) Γ' := fun s σ a os hs hq0 => by
 obtain ⟨o', e, ho⟩ := hq0;obtain ⟨d, hd, rd⟩ := hs.get hi;obtain ⟨ds, σ', h1, h2, h3⟩ := h s (σ.set i none) a o' hs.setn ho;have hv := k.s _ _ rd;exact ⟨d :: ds, σ', by simp only [e, fL, hd, bind_some, hv, h1, map_some], ⟨d, ds, rfl, w.w _ _ rd, h2⟩, h3⟩
theorem bR {A P : Type} {as : List DD.Arg} {oe : A -> List (Option D) -> Prop} {pk : A -> S -> P} {PI : P -> List D -> Prop} {r r' : Rl α} [w : Wk r r'] (h : qw Γ as oe pk PI Γ') : qw Γ (.ex c :: as) (oX r oe) (fun a s => (a.1, pk a.2 s)) (Pc r' PI) Γ' := fun s σ a os hs hq0 => by
 obtain ⟨d, o', e, rd, ho⟩ := hq0;obtain ⟨ds, σ', h1, h2, h3⟩ := h s σ a.2 o' hs ho;exact ⟨d :: ds, σ', by simp only [e, fL, h1, map_some], ⟨d, ds, rfl, w.w _ _ rd, h2⟩, h3⟩
noncomputable def qv {P : Type} (Γ : aA S) (as : List DD.Arg) (PO : P -> List D -> Prop) (u : S -> P -> S) (Γ' : aA S) : Prop := ∀ s σ q ds, Sat Γ s σ -> PO q ds -> Sat Γ' (u s q) (im as ds σ)
theorem aG : qv Γ [] Pn (fun s _ => s) Γ := fun s σ q ds hs e => by cases e; exact hs
theorem bD {P : Type} (i : Nat) {as : List DD.Arg} {PO : P -> List D -> Prop} {u : S -> P -> S} {r : Rl α} [k : Sc r] (h : qv Γ as PO u Γ') : qv Γ (.bo i :: as) (Pc r PO) (fun s q => u s q.2) Γ' := fun s σ q ds hs hq0 => by
 obtain ⟨d, ds', e, rd, hp⟩ := hq0;obtain ⟨v, hv⟩ := k.s _ _ rd;simp only [e, im, hv];exact h s σ q.2 ds' hs hp
theorem dd {P : Type} (i : Nat) {as : List DD.Arg} {PO : P -> List D -> Prop} {u : S -> P -> S} {get : S -> α} {put : S -> α -> S} {r : Rl α} [k : Ns r] (hg : autoParam (∀ s v, get (put s v) = v) jP._auto_1) (hf : autoParam (∀ v, Fr (fun s => put s v) (Γ.set i none)) j3._auto_1) (h : qv (Γ.set i (some ⟨get, r⟩)) as PO u Γ') : qv Γ (.bo i :: as) (Pc r PO) (fun s q => u (put s q.1) q.2) Γ' := fun s σ q ds hs hq0 => by
 obtain ⟨d, ds', e, rd, hp⟩ := hq0;have hv := k.s _ _ rd;simp only [e, im, hv];exact h _ _ q.2 ds' (hs.put hg hf rd) hp
theorem bQ {P : Type} {as : List DD.Arg} {PO : P -> List D -> Prop} {u : S -> P -> S} {r : Rl α} (h : qv Γ as PO u Γ') : qv Γ (.ex c :: as) (Pc r PO) (fun s q => u s q.2) Γ' := fun s σ q ds hs hq0 => by
 obtain ⟨d, ds', e, rd, hp⟩ := hq0;simp only [e, im];exact h s σ q.2 ds' hs hp
theorem aF {A P : Type} {g : GF} {h : P -> Option (ρ × P)} {as : List DD.Arg} {f : S -> Option (A × S)} {oe : A -> List (Option D) -> Prop} {pk : A -> S -> P} {PI PO : P -> List D -> Prop} {ro : Rl ρ} {u : S -> P -> S} (hF : JF g h PI ro PO) (h1 : vw Γ as f oe Γ1) (h2 : qw Γ1 as oe pk PI Γ2) (h3 : qv Γ2 as PO u Γ3) :
  JE Γ (aW g as) (fun s => (f s).bind fun p => (h (pk p.1 p.2)).map fun q => (q.1, u p.2 q.2)) ro Γ3 := fun s σ v s' hs e => by
 obtain ⟨⟨a, s1⟩, e1, e⟩ := bd e;obtain ⟨⟨w, q⟩, e2, e⟩ := mp e;obtain ⟨rfl, rfl⟩ := Prod.mk.inj e;obtain ⟨os, σ1, g1, r1, k1⟩ := h1 s σ a s1 hs e1;obtain ⟨ds, σ2, g2, r2, k2⟩ := h2 s1 σ1 a os k1 r1;obtain ⟨d, ds', g3, r3, k3⟩ := hF _ _ _ _ r2 e2;exact ⟨d, _, by simp only [aW, g1, bind_some, g2, g3, map_some], r3, h3 s1 σ2 q ds' k2 k3⟩
end
section
variable {S : Type} {α β γ δ ρ : Type} {P Q : Type}
noncomputable def Al (W : List Nat) (k : Nat) (PI : P -> List D -> Prop) (Γ : aA Q) (pr : P -> Q) : Prop := ∀ p ds, PI p ds -> Sat Γ (pr p) ((la W k ds).map some) /\ ds.length = Γ.length
theorem bn {W : List Nat} {k : Nat} {pr : Unit -> Q} : Al W k Pn ([] : aA Q) pr := fun p ds h => by cases h; exact ⟨trivial, rfl⟩
theorem al {W : List Nat} {k : Nat} {PI : P -> List D -> Prop} {Γ : aA Q} {r : Rl α} {get : Q -> α} {pr : α × P -> Q} (hk : k ∉ W) (h0 : ∀ p, get (pr p) = p.1) (h : ∀ a, Al W (k + 1) PI Γ (fun p => pr (a, p))) : Al W k (Pc r PI) (some ⟨get, r⟩ :: Γ) pr := fun p ds hq0 => by
 obtain ⟨d, ds', e, rd, hp⟩ := hq0;obtain ⟨h1, h2⟩ := h p.1 p.2 ds' hp;refine ⟨?_, by simp [e, h2]⟩;simp only [e, la, hk, if_false, List.map_cons];exact ⟨⟨d, rfl, by rw [show (Sl.mk get r).get = get from rfl, h0]; exact rd⟩, h1⟩
noncomputable def Ak (W : List Nat) (k : Nat) (PI : P -> List D -> Prop) (Γr : aA S) (fin : P -> S -> P) (PO : P -> List D -> Prop) : Prop := ∀ p ds s σ, PI p ds -> Sat Γr s σ -> PO (fin p s) (gK W σ k ds)
theorem aV {W : List Nat} {k : Nat} {Γr : aA S} : Ak W k Pn Γr (fun p _ => p) Pn := fun p ds s σ h _ => by cases h; rfl
theorem ak {W : List Nat} {k : Nat} {PI PO : P -> List D -> Prop} {Γr : aA S} {fin : P -> S -> P} {r q : Rl α} {get : S -> α} (hk : k ∉ W) (hi : Γr[k]? = some (some ⟨get, q⟩)) (h : Ak W (k + 1) PI Γr fin PO) : Ak W k (Pc r PI) Γr (fun p s => (get s, fin p.2 s)) (Pc q PO) := fun p ds s σ hq0 hs => by
 obtain ⟨d, ds', e, rd, hp⟩ := hq0;obtain ⟨d', hd, rd'⟩ := hs.get hi;exact ⟨d', _, by simp only [e, gK, hk, if_false, hd, Option.getD_some], rd', h p.2 ds' s σ hp hs⟩
theorem cj {N : Nat} {W : List Nat} {c : DS} {Γp Γn Γr : aA S} {f : S -> Option (TR S ρ)} {init : P -> S} {fin : P -> S -> P} {PI PO : P -> List D -> Prop} {ro : Rl ρ} (hi : Al W 0 PI Γp init) (hb : JS (Γp ++ List.replicate (N - Γp.length) none) c f Γn ⟨Γr, ro, []⟩) (ho : Ak W 0 PI Γr fin PO) :
  JF (df N W c) (fun p => (f (init p)).bind fun t => match t with | .rt v s => some (v, fin p s) | _ => none) PI ro PO := fun p ds v q hp e => by
 obtain ⟨t, e1, e⟩ := bd e;obtain ⟨h1, h2⟩ := hi p ds hp;have hs := h1.app (Sat.non (s := init p) (k := N - Γp.length) (σ := List.replicate (N - Γp.length) none) (by simp));obtain ⟨o, ho1, ro1⟩ := hb _ _ t hs e1;cases t with
 | rt w s =>
  cases e;cases o with
  | rt d σ => exact ⟨d, _, by simp only [df, h2, ho1, bind_some], ro1.1, ho p ds s σ hp ro1.2⟩
  | _ => exact ro1.elim
 | _ => cases e
end
section
variable {S : Type} {α β γ δ ρ : Type} {Γ Γ0 Γ1 Γ2 Γ3 Γ4 Γ' Γn Γh : aA S} {c c' : DE} {t u : DT} {E : Ex S ρ}
noncomputable def Aj (Γ : aA S) (ps : List DP) (f : S -> Option (List α)) (r : Rl α) : Prop := ∀ s σ v, Sat Γ s σ -> f s = some v -> ∃ ds, ld ps σ = some ds /\ All2 r v ds
theorem pK {r : Rl α} : Aj Γ [] (fun _ => some []) r := fun s σ v hs e => by cases e; exact ⟨[], rfl, .nil⟩
theorem g8 {r : Rl α} {p : DP} {ps : List DP} {f : S -> Option α} {g : S -> Option (List α)} (h : JP Γ p f r) (k : Aj Γ ps g r) : Aj Γ (p :: ps) (fun s => (f s).bind fun a => (g s).map fun as => a :: as) r := fun s σ v hs e => by
 obtain ⟨a, e1, e⟩ := bd e;obtain ⟨as, e2, e⟩ := mp e;cases e;obtain ⟨d, h1, h2⟩ := h s σ a hs e1;obtain ⟨ds, h3, h4⟩ := k s σ as hs e2;exact ⟨d :: ds, by simp only [ld, h1, h3, bind_some, map_some], .cons h2 h4⟩
theorem sU {r : Rl α} {ps : List DP} {f : S -> Option (List α)} (h : Aj Γ ps f r) : JP Γ (nB ps) (fun s => (f s).bind fun xs => if gZ (xs.length) = true then some xs else none) (rL r) := fun s σ v hs e => by
 obtain ⟨a, e1, e⟩ := bd e;obtain ⟨ds, h3, h4⟩ := h s σ a hs e1;split at e
 ·rename_i hl
  have hl := rQ hl;cases e;exact ⟨.lst true ds, by simp only [nB, h3, bind_some, <- h4.len, hl, if_true], ds, rfl, h4⟩
 ·cases e
noncomputable def Ln (R : Rl α) (k : Int) (π : α -> β) (up : α -> β -> α) (q : Rl β) : Prop := ∀ a d, R a d -> ∃ x, cF d [k] = some x /\ q (π a) x /\ ∀ v y, q v y -> R (up a v) (dO d [k] y)
theorem v7 {r : Rl α} {q : Rl β} {t : Rl γ} : Ln (du r q t) 0 (fun p => p.1) (fun p v => (v, p.2)) r := fun _ _ ⟨x, y, z, e, h1, h2, h3⟩ => ⟨x, by rw [e]; rfl, h1, fun v w hw => ⟨w, y, z, by rw [e]; rfl, hw, h2, h3⟩⟩
theorem Cd {x : D} {xs : List D} {p : PyData} {ps : List PyData} (h : x.py = some p) (h' : D.pyL xs = some ps) : D.pyL (x :: xs) = some (p :: ps) := by simp only [D.pyL, h, h', bind_some, map_some]
theorem Gd {xs : List D} {ps : List PyData} (h : D.pyL xs = some ps) : (D.tup xs).py = some (.tuple ps) := by simp only [D.py, h, map_some]
theorem y9 {p : PyData} {ps : List PyData} (h : p.canLay0 = true) (h' : PyData.canLayAll0 ps = true) : PyData.canLayAll0 (p :: ps) = true := by simp only [PyData.canLayAll0, h, h', Bool.and_self]
theorem layT {ps : List PyData} (h : PyData.canLayAll0 ps = true) : (PyData.tuple ps).canLay0 = true := by simp only [PyData.canLay0, h]
theorem De {p : PyData} {ps : List PyData} {k : Nat} (h : p.depth <= k) (h' : PyData.depthAll ps <= k) : PyData.depthAll (p :: ps) <= k := by simp only [PyData.depthAll]; omega
theorem Gq {k : Nat} : PyData.depthAll [] <= k := by simp only [PyData.depthAll]; omega
theorem Gp {ps : List PyData} {k : Nat} (h : PyData.depthAll ps <= k) : (PyData.tuple ps).depth <= k + 1 := by simp only [PyData.depth]; omega
instance {r : Rl α} {q : Rl β} {t : Rl γ} [k : Py r] [l : Py q] [m : Py t] : Py (du r q t) := ⟨fun p => .tuple [Py.pe r p.1, Py.pe q p.2.1, Py.pe t p.2.2], fun p => Py.ok r p.1 && Py.ok q p.2.1 && Py.ok t p.2.2, max (max (Py.k r) (Py.k q)) (Py.k t) + 1,
 fun a d hq0 => by obtain ⟨x, y, z, e, h1, h2, h3⟩ := hq0; rw [e]; exact Gd (Cd (k.py _ _ h1) (Cd (l.py _ _ h2) (Cd (m.py _ _ h3) rfl))), fun a h => by
  simp only [Bool.and_eq_true] at h;exact layT (y9 (k.lay _ h.1.1) (y9 (l.lay _ h.1.2) (y9 (m.lay _ h.2) rfl))), fun a h => by
  simp only [Bool.and_eq_true] at h;exact Gp (De (Nat.le_trans (k.dep a.1 h.1.1) (Nat.le_trans (Nat.le_max_left _ _) (Nat.le_max_left _ _))) (De (Nat.le_trans (l.dep a.2.1 h.1.2) (Nat.le_trans (Nat.le_max_right _ _) (Nat.le_max_left _ _))) (De (Nat.le_trans (m.dep a.2.2 h.2) (Nat.le_max_right _ _)) Gq)))⟩
end
section
variable {S : Type} {α β γ δ ρ : Type} {Γ Γ0 Γ1 Γ2 Γ3 Γ4 Γ' Γn Γh : aA S} {c c' : DE} {t u : DT} {E : Ex S ρ} {P : Type}
noncomputable def qu (Γ0 Γ : aA S) (as : List PArg) (pk : S -> Option P) (PI : P -> List D -> Prop) (Γ' : aA S) : Prop := ∀ s σ0 σ p, Sat Γ0 s σ0 -> Sat Γ s σ -> pk s = some p -> ∃ ds σ', dI as σ0 σ = some (ds, σ') /\ PI p ds /\ Sat Γ' s σ'
theorem u7 : qu Γ0 Γ [] (fun _ => some ()) Pn Γ := fun s σ0 σ p h0 hs e => by cases e; exact ⟨[], σ, rfl, rfl, hs⟩
theorem C1 (i : Nat) {as : List PArg} {pk : S -> Option P} {PI : P -> List D -> Prop} {get : S -> α} {r r' : Rl α} [k : Sc r] [w : Wk r r'] (hi : Γ[i]? = some (some ⟨get, r⟩)) (h : qu Γ0 Γ as pk PI Γ') : qu Γ0 Γ (.bo i :: as) (fun s => (pk s).map fun p => (get s, p)) (Pc r' PI) Γ' := fun s σ0 σ p h0 hs e => by
 obtain ⟨p1, e1, rfl⟩ := mp e;obtain ⟨ds, σ', h1, h2, h3⟩ := h s σ0 σ p1 h0 hs e1;obtain ⟨d, hd, rd⟩ := hs.get hi;obtain ⟨v, hv⟩ := k.s _ _ rd;exact ⟨d :: ds, σ', by simp only [dI, hd, bind_some, hv, h1, map_some], ⟨d, ds, rfl, w.w _ _ rd, h2⟩, h3⟩
theorem C2 (i : Nat) {as : List PArg} {pk : S -> Option P} {PI : P -> List D -> Prop} {get : S -> α} {r r' : Rl α} [k : Ns r] [w : Wk r r'] (hi : Γ[i]? = some (some ⟨get, r⟩)) (h : qu Γ0 (Γ.set i none) as pk PI Γ') : qu Γ0 Γ (.bo i :: as) (fun s => (pk s).map fun p => (get s, p)) (Pc r' PI) Γ' := fun s σ0 σ p h0 hs e => by
 obtain ⟨p1, e1, rfl⟩ := mp e;obtain ⟨d, hd, rd⟩ := hs.get hi;obtain ⟨ds, σ', h1, h2, h3⟩ := h s σ0 (σ.set i none) p1 h0 hs.setn e1;have hv := k.s _ _ rd;exact ⟨d :: ds, σ', by simp only [dI, hd, bind_some, hv, h1, map_some], ⟨d, ds, rfl, w.w _ _ rd, h2⟩, h3⟩
theorem xP (i : Nat) {as : List PArg} {pk : S -> Option P} {PI : P -> List D -> Prop} {get : S -> α} {R : Rl α} {k : Int} {π : α -> List β} {up : α -> List β -> α} {r : Rl β} (hi : Γ[i]? = some (some ⟨get, R⟩)) (l : Ln R k π up (rL r)) (h : qu Γ0 (Γ.set i none) as pk PI Γ') : qu Γ0 Γ (.bp i (pC (.int k)) :: as) (fun s => (pk s).map fun p => (π (get s), p)) (Pc (rL r) PI) Γ' := fun s σ0 σ p h0 hs e => by
 obtain ⟨p1, e1, rfl⟩ := mp e;obtain ⟨d, hd, rd⟩ := hs.get hi;obtain ⟨x, hx, ⟨xs, rfl, h5⟩, _⟩ := l _ _ rd;obtain ⟨ds, σ', h1, h2, h3⟩ := h s σ0 (σ.set i none) p1 h0 hs.setn e1;exact ⟨.lst true xs :: ds, σ', by simp only [dI, hd, pC, bind_some, hx, h1, map_some], ⟨_, ds, rfl, ⟨xs, rfl, h5⟩, h2⟩, h3⟩
noncomputable def E4 (R : Rl α) (k : Int) (up : α -> β -> α) (q : Rl β) (R' : Rl α) : Prop := ∀ a d v y, R a d -> q v y -> R' (up a v) (dO d [k] y)
theorem zU {r r' : Rl α} {q : Rl β} {t : Rl γ} : E4 (du r q t) 0 (fun p v => (v, p.2)) r' (du r' q t) := fun _ _ _ w ⟨x, y, z, e, h1, h2, h3⟩ hw => ⟨w, y, z, by rw [e]; rfl, hw, h2, h3⟩
noncomputable def qt (Γ0 Γ : aA S) (as : List PArg) (PO : P -> List D -> Prop) (u : S -> S -> P -> S) (Γ' : aA S) : Prop := ∀ s1 s σ0 σ q ds, Sat Γ0 s1 σ0 -> Sat Γ s σ -> PO q ds -> Sat Γ' (u s1 s q) (d7 as ds σ0 σ)
theorem u4 : qt Γ0 Γ [] Pn (fun _ s _ => s) Γ := fun s1 s σ0 σ q ds h0 hs e => by cases e; exact hs
theorem CY (i : Nat) {as : List PArg} {PO : P -> List D -> Prop} {u : S -> S -> P -> S} {r : Rl α} [k : Sc r] (h : qt Γ0 Γ as PO u Γ') : qt Γ0 Γ (.bo i :: as) (Pc r PO) (fun s1 s q => u s1 s q.2) Γ' := fun s1 s σ0 σ q ds h0 hs hq0 => by
 obtain ⟨d, ds', e, rd, hp⟩ := hq0;obtain ⟨v, hv⟩ := k.s _ _ rd;simp only [e, d7, hv];exact h s1 s σ0 σ q.2 ds' h0 hs hp
theorem CZ (i : Nat) {as : List PArg} {PO : P -> List D -> Prop} {u : S -> S -> P -> S} {get : S -> α} {put : S -> α -> S} {r : Rl α} [k : Ns r] (hg : ∀ s v, get (put s v) = v) (hf : ∀ v, Fr (fun s => put s v) (Γ.set i none)) (h : qt Γ0 (Γ.set i (some ⟨get, r⟩)) as PO u Γ') : qt Γ0 Γ (.bo i :: as) (Pc r PO) (fun s1 s q => u s1 (put s q.1) q.2) Γ' := fun s1 s σ0 σ q ds h0 hs hq0 => by
 obtain ⟨d, ds', e, rd, hp⟩ := hq0;have hv := k.s _ _ rd;simp only [e, d7, hv];exact h s1 _ σ0 _ q.2 ds' h0 (hs.put hg hf rd) hp
theorem xO (i : Nat) {as : List PArg} {PO : P -> List D -> Prop} {u : S -> S -> P -> S} {get : S -> α} {put : S -> α -> S} {R R' : Rl α} {k : Int} {up : α -> List β -> α} {r : Rl (List β)} (hi : Γ0[i]? = some (some ⟨get, R⟩)) (l : E4 R k up r R') (hg : ∀ s v, get (put s v) = v) (hf : ∀ v, Fr (fun s => put s v) (Γ.set i none)) (h : qt Γ0 (Γ.set i (some ⟨get, R'⟩)) as PO u Γ') :
  qt Γ0 Γ (.bp i (pC (.int k)) :: as) (Pc r PO) (fun s1 s q => u s1 (put s (up (get s1) q.1)) q.2) Γ' := fun s1 s σ0 σ q ds h0 hs hq0 => by
 obtain ⟨d, ds', e, rd, hp⟩ := hq0;obtain ⟨t, ht, rt⟩ := h0.get hi;have hq : yO σ i t (.int k) d = σ.set i (some (dO t [k] d)) := rfl;simp only [e, d7, ht, pC, hq];exact h s1 _ σ0 _ q.2 ds' h0 (hs.put hg hf (l _ _ _ _ rt rd)) hp
theorem tj {g : GF} {h : P -> Option (ρ × P)} {as : List PArg} {pk : S -> Option P} {PI PO : P -> List D -> Prop} {ro : Rl ρ} {u : S -> S -> P -> S} (hF : JF g h PI ro PO) (h1 : qu Γ Γ as pk PI Γ1) (h3 : qt Γ Γ1 as PO u Γ2) :
  JE Γ (jA g as) (fun s => (pk s).bind fun p => (h p).map fun q => (q.1, u s s q.2)) ro Γ2 := fun s σ v s' hs e => by
 obtain ⟨a, e1, e⟩ := bd e;obtain ⟨⟨w, q⟩, e2, e⟩ := mp e;obtain ⟨rfl, rfl⟩ := Prod.mk.inj e;obtain ⟨ds, σ2, g2, r2, k2⟩ := h1 s σ σ a hs hs e1;obtain ⟨d, ds', g3, r3, k3⟩ := hF _ _ _ _ r2 e2;exact ⟨d, _, by simp only [jA, g2, bind_some, g3, map_some], r3, h3 s s σ σ2 q ds' hs k2 k3⟩
theorem u3 (i : Nat) {get : S -> α} {R : Rl α} {k : Int} {π : α -> List β} {up : α -> List β -> α} {r : Rl β} {re : Rl ρ} {f : S -> Option (ρ × S)} (hi : Γ[i]? = some (some ⟨get, R⟩)) (l : Ln R k π up (rL r)) (h : JE Γ c f re Γ1) : JE Γ (pU (nC i (pC (.int k))) c c') f re Γ1 := fun s σ v s' hs e => by
 obtain ⟨d, hd, rd⟩ := hs.get hi;obtain ⟨x, hx, ⟨xs, rfl, _⟩, _⟩ := l _ _ rd;have ho : nC i (pC (.int k)) σ = true := by simp only [nC, hd, pC, hx]
 obtain ⟨d', σ', h3, h4, h5⟩ := h s σ v s' hs e;exact ⟨d', σ', by simp only [pU, ho, if_true, h3], h4, h5⟩
end
section
variable {S : Type} {α β γ δ ρ : Type} {Γ Γ0 Γ1 Γ2 Γ3 Γ4 Γ' Γn Γh : aA S} {c c' : DE} {t u : DT} {E : Ex S ρ} {P : Type}
end
section
variable {S : Type} {α β γ δ ρ : Type} {Γ Γ0 Γ1 Γ2 Γ3 Γ4 Γ' Γn Γh : aA S} {c c' : DE} {t u : DT} {E : Ex S ρ} {P : Type}
theorem Di : ∀ {as : List Bool} {ds : List D}, All2 rB as ds -> mP ds = some as := by
 intro as ds h
 induction h with
 | nil => rfl
 | cons h t ih => cases h; simp only [mP, ih, map_some]
theorem C0 {r : Rl (List Bool)} [l : Ls r rB] : nh pX (fun xs : List Bool => some (xs.all id)) r rB := fun a c x e h => by
 obtain ⟨o, ds, e1, hh⟩ := l.l a x h;subst e1;cases e;exact ⟨_, by simp only [pX, Di hh, map_some], rfl⟩
theorem zc {rl : Rl (List α)} {r : Rl α} [l : Ls rl r] [k : Sc r] {p : DP} {f : S -> Option (List α)} (h : JP Γ p f rl) : JE Γ (lT p) (fun s => (f s).map fun xs => (xs, s)) (rL r) Γ := fun s σ v s' hs e => by
 obtain ⟨a, e1, e2⟩ := mp e;cases e2;obtain ⟨d, hd, rd⟩ := h s σ v hs e1;obtain ⟨o, ds, rfl, hh⟩ := l.l v d rd;exact ⟨.lst true ds, σ, by simp only [lT, hd, bind_some, hh.sc, if_true], ⟨ds, rfl, hh⟩, hs⟩
end
end TT
namespace TT
open PySem DD
variable {S α β γ : Type} {Γ Γ1 Γ2 Γ' : aA S}
theorem yj {r : Rl α} {q : Rl β} [Py r] [Py q] {f : α -> β -> Bool} [k : EqR r q f] {b : β} : ∀ {as : List α}, (as.map (Py.pe r)).any (fun z => PyData.eqv z (Py.pe q b)) = as.any fun a => f a b
 | [] => rfl
 | a :: as => by rw [List.map_cons, List.any_cons, List.any_cons, yj, k.eqv]
noncomputable def xS (ok : α -> Bool) (f : α -> Bool) (xs : List α) : Option Bool := if xs.all ok = true then some (xs.any f) else none
theorem Ew {rl : Rl (List α)} {r : Rl α} {q : Rl β} [l : Ls rl r] [kr : Py r] [kq : Py q] {f : α -> β -> Bool} [k : EqR r q f] {b : β} {xs : List α} {t : Bool} {x y : D} (e : xS (fun a => Py.ok r a && Py.ok q b && decide (min (Py.k r) (Py.k q) <= 50)) (fun a => f a b) xs = some t)
  (h1 : q b x) (h2 : rl xs y) : va x y = some t := by
 unfold xS at e;split at e
 ·rename_i h
  cases e;obtain ⟨o, ds, rfl, h3⟩ := l.l xs y h2;have hp := xf h3;have hall : ((xs.map (Py.pe r)).all fun z => kJ z (Py.pe q b)) = true := by
   rw [List.all_map];rw [List.all_eq_true] at h ⊢;intro z hz;exact vS (h z hz)
  simp only [va, D.py, hp, map_some, bind_some, kq.py _ _ h1, hall, if_true, yj]
 ·cases e
theorem Es {rl : Rl (List α)} {r : Rl α} {q : Rl β} [l : Ls rl r] [kr : Py r] [kq : Py q] {f : α -> β -> Bool} [k : EqR r q f] : JO z9 (fun (b : β) (xs : List α) => xS (fun a => Py.ok r a && Py.ok q b && decide (min (Py.k r) (Py.k q) <= 50)) (fun a => f a b) xs) q rl rB := fun a b c x y e h1 h2 =>
 ⟨_, by simp only [z9, Ew (rl := rl) (r := r) (q := q) e h1 h2, map_some], rfl⟩
section
variable {c c' : DE} {t u : DT} {Γh : aA S} {α β : Type}
theorem CV {rl : Rl (List α)} {r : Rl α} [l : Ls rl r] [k : Sc r] {p : DP} {f : S -> Option (List α)} {pl ph : Option DP} {gl gh : S -> Option (Option Int)} (h1 : JP Γ p f rl) (h2 : vv Γ pl gl) (h3 : vv Γ ph gh) :
  JE Γ (tN p pl ph) (fun s => (f s).bind fun xs => (gl s).bind fun lo => (gh s).map fun hi => (jB xs lo hi, s)) (rL r) Γ := fun s σ v s' hs e => by
 obtain ⟨a, e1, e⟩ := bd e;obtain ⟨lo, e2, e⟩ := bd e;obtain ⟨hi, e3, e⟩ := mp e;cases e;obtain ⟨x, hx, rx⟩ := h1 s σ a hs e1;obtain ⟨o, ds, rfl, h⟩ := l.l a x rx;exact ⟨_, σ, by simp only [tN, hx, bind_some, h.sc, if_true, h2 s σ lo hs e2, h3 s σ hi hs e3, map_some], ⟨_, rfl, h.cut lo hi⟩, hs⟩
end
end TT
namespace TT
open PySem DD L2
variable {S α β γ : Type} {Γ Γ1 Γ2 Γ' : aA S} {c c' : DE} {t u : DT}
noncomputable def bC : Nat -> List α -> List (Int × α)
 | _, [] => []
 | n, x :: xs => ((n : Int), x) :: bC (n + 1) xs
theorem fM : ∀ (xs : List α) (n : Nat), (bC n xs).length = xs.length
 | [], _ => rfl
 | _ :: xs, n => by simp [bC, fM xs]
theorem pY {r : Rl α} : ∀ {xs : List α} {ds : List D} (n : Nat), All2 r xs ds -> All2 (fm rI r) (bC n xs) (kl n ds)
 | _, _, n, .nil => .nil
 | _, _, n, .cons h t => .cons ⟨_, _, rfl, rfl, h⟩ (pY (n + 1) t)
theorem z0 (n0 : Nat) {rl : Rl (List α)} {r r' : Rl α} [l : Ls rl r] [k : Fz r r'] {f : S -> Option (List α × S)} (h1 : JE Γ c f rl Γ1) : JI Γ (lO n0 c) (fun s => (f s).map fun p => (bC n0 p.1, p.2)) (fm rI r') Γ1 := fun s σ v s' hs e => by
 obtain ⟨⟨a, s1⟩, e1, e⟩ := mp e;cases e;obtain ⟨x, σ1, hx, rx, k1⟩ := h1 s σ a s1 hs e1;obtain ⟨o, ds, rfl, h⟩ := l.l a x rx;exact ⟨_, σ1, by simp only [lO, hx, bind_some], pY n0 (h.fz k.f), k1⟩
variable {S α β γ : Type} {Γ Γ1 : aA S} {c : DE}
end TT
namespace TT
open PySem L2 DD
section
variable {S : Type} {α β γ δ ρ : Type} {Γ Γ0 Γ1 Γ2 Γ3 Γ4 Γ' Γn Γh : aA S} {c c' : DE} {t u : DT} {E : Ex S ρ} {P : Type}
noncomputable def two (j : Int) : List Int := (List.range ((j.toNat + 1) / 2)).map fun (k : Nat) => 0 + (k : Int) * 2
end
section
variable {S : Type} {α β γ δ ρ : Type} {Γ Γ0 Γ1 Γ2 Γ3 Γ4 Γ' Γn Γh : aA S} {c c' : DE} {t u : DT} {E : Ex S ρ} {P : Type}
end
section
variable {S : Type} {α β γ δ ρ : Type} {Γ Γ0 Γ1 Γ2 Γ3 Γ4 Γ' Γn Γh : aA S} {c c' : DE} {t u : DT} {E : Ex S ρ} {P : Type}
end
end TT
namespace L2
open PySem PySem.Spec PyProof.Rows
section
variable {X : Cx}
end
end L2
namespace DD
open PySem PySem.Spec PyProof.Rows L2
section
variable {X : Cx} {a : Expr} {p : DP} {apos cpos : Pos}
end
end DD
namespace TT
open PySem L2 DD
section
variable {S : Type} {Γ : aA S}
end
end TT
namespace DD
open PySem PySem.Spec PyProof.Rows L2
noncomputable def nM (g : D -> D -> Option D) (i : Nat) (c : DE) : DE := fun σ => (bf σ i).bind fun _ => (c σ).bind fun p => (bf p.2 i).bind fun x => (g x p.1).map fun d => (d, p.2)
section
variable {X : Cx} {b : Expr} {c : DE} {pos npos : Pos}
theorem xX {g : D -> D -> Option D} {i : Nat} {σ σ' : ar} {d : D} (h : nM g i c σ = some (d, σ')) : ∃ x0 x y, bf σ i = some x0 /\ c σ = some (y, σ') /\ bf σ' i = some x /\ g x y = some d := by
 unfold nM at h;rcases h0 : bf σ i with _ | x0
 ·rw [h0] at h; cases h
 ·rw [h0] at h; simp only [bind_some] at h
  rcases h1 : c σ with _ | ⟨y, σ1⟩
  ·rw [h1] at h; cases h
  ·rw [h1] at h; simp only [bind_some] at h
   rcases h2 : bf σ1 i with _ | x
   ·rw [h2] at h; cases h
   ·rw [h2] at h; simp only [bind_some] at h
    obtain ⟨z, e, e2⟩ := bH h;cases e2;exact ⟨x0, x, y, rfl, rfl, h2, e⟩
theorem Fq {f : Value -> Value -> Sem Value} {g : D -> D -> Option D} (o : dG X f g) {i : Nat} {σ : St} {H : Hp} {Q : VK} (h : rE X.K (nM g i c) σ H Q) :
  nR (fun x y H Q => ∃ F dx dy d w, Bor X.K F H dx x /\ Bor X.K F H dy y /\ g dx dy = some d /\ d.sc = some w /\ Q w H) (BO i) (rE X.K c) σ H Q := by
 obtain ⟨F, R, σD, d, σD', r, ec, k⟩ := h;obtain ⟨x0, x, y, e0, e1, e2, eg⟩ := xX ec;obtain ⟨w, hw⟩ := o.sc _ _ _ eg;obtain ⟨v0, hv0, _⟩ := r.get (bm e0);refine ⟨v0, hv0, F, R, σD, y, σD', r, e1, fun F1 H1 u x1 r1 => ?_⟩;obtain ⟨v1, hv1, b1⟩ := r1.get (bm e2);rw [hv0] at hv1; cases hv1;exact ⟨F1, x, y, d, w, b1, r1.bor (by simp), eg, hw, k F1 H1 w x1 (r1.pop.scal hw)⟩
theorem AR (i : Nat) {x : Str} {op : CmpOp} {g : D -> D -> Option D} (o : dG X (compareOp op) g) (hb : QE X b c) (hm : behindInMarks op b = false) (hN : autoParam (X.N[i]? = some x) au._auto_1) (hv : autoParam (m7 X.env.scope x) qy._auto_1) (hd : autoParam ((x == ("__debug__" : Str)) = false) cx._auto_1)
  (hcd : autoParam ((x == ("__classdict__" : Str)) = false) cx._auto_1) : QE X (.Compare (.Name x npos) [op] [b] pos) (nM g i c) :=
 aO (pB o.run (iu hN hv hd hcd) hb hm) fun _ _ _ h => Fq o h
end
end DD
namespace TT
open PySem DD L2
variable {S α β γ : Type} {Γ Γ1 : aA S} {c : DE}
theorem CW (i : Nat) {g : D -> D -> Option D} {h : α -> β -> Option γ} {ra ra0 : Rl α} {rb : Rl β} {rc : Rl γ} {get : S -> α} {f : S -> Option (β × S)} (o : JO g h ra rb rc) (h0 : Γ[i]? = some (some ⟨get, ra0⟩)) (h1 : Γ1[i]? = some (some ⟨get, ra⟩)) (h2 : JE Γ c f rb Γ1) :
  JE Γ (nM g i c) (fun s => (f s).bind fun p => (h (get p.2) p.1).map fun d => (d, p.2)) rc Γ1 := by
 intro s σ v s' hs e;obtain ⟨⟨b, s1⟩, e1, e⟩ := bd e;obtain ⟨d, e3, e⟩ := mp e;cases e;obtain ⟨y, σ1, hy, ry, k1⟩ := h2 s σ b s1 hs e1;obtain ⟨x0, hx0, _⟩ := hs.get h0;obtain ⟨x, hx, rx⟩ := k1.get h1;obtain ⟨z, hz, rz⟩ := o _ _ _ _ _ e3 rx ry;exact ⟨z, σ1, by simp only [nM, hx0, hy, hx, hz, bind_some, map_some], rz, k1⟩
end TT
namespace PySem.AutoSeq1
end PySem.AutoSeq1
namespace L2
open PySem PySem.Spec PyProof.Rows
section
variable {X : Cx}
end
end L2
namespace DD
open PySem PySem.Spec PyProof.Rows L2
section
variable {X : Cx} {a b : Expr} {c c' : DE} {pos : Pos}
end
end DD
namespace TT
open PySem L2 DD
section
variable {S : Type} {α β γ δ ρ : Type} {Γ Γ0 Γ1 Γ2 Γ3 Γ4 Γ' Γn Γh : aA S} {c c' : DE}
end
section
variable {S : Type} {α β γ δ ρ : Type} {Γ Γ0 Γ1 Γ2 Γ3 Γ4 Γ' Γn Γh : aA S} {c c' : DE} {E : Ex S ρ}
end
section
variable {S α β ρ : Type}
theorem nH {put : S -> α -> S} {b : S -> Option (TR S ρ)} {I : S -> Prop} : ∀ {xs : List α} {s : S}, (∀ s x, x ∈ xs -> I s -> ∃ s', b (put s x) = some (.nx s') /\ I s') -> I s -> ∃ s', cD put b xs s = some (.nx s') /\ I s'
 | [], s, _, h => ⟨s, rfl, h⟩
 | x :: xs, s, hb, h => by
  obtain ⟨s1, e1, h1⟩ := hb s x (by simp) h;obtain ⟨s2, e2, h2⟩ := nH (xs := xs) (fun s y hy => hb s y (by simp [hy])) h1;exact ⟨s2, by simp only [cD, e1, bind_some, e2], h2⟩
theorem Bj {put : S -> α -> S} {b : S -> Option (TR S ρ)} {I : Nat -> S -> Prop} {n : Nat} : ∀ {xs : List α} {s : S}, (∀ k s x, xs[k]? = some x -> I (n + k) s -> ∃ s', b (put s x) = some (.nx s') /\ I (n + k + 1) s') -> I n s -> ∃ s', cD put b xs s = some (.nx s') /\ I (n + xs.length) s' := by
 intro xs
 induction xs generalizing n with
 | nil => intro s _ h; exact ⟨s, rfl, h⟩
 | cons x xs ih =>
  intro s hb h;obtain ⟨s1, e1, h1⟩ := hb 0 s x rfl h;obtain ⟨s2, e2, h2⟩ := ih (n := n + 1) (fun k s y hy hi => by
   obtain ⟨s', q1, q2⟩ := hb (k + 1) s y (by simpa using hy) (by rw [show n + (k + 1) = n + 1 + k by omega]; exact hi);exact ⟨s', q1, by rw [show n + 1 + k + 1 = n + (k + 1) + 1 by omega]; exact q2⟩) h1
  exact ⟨s2, by simp only [cD, e1, bind_some, e2], by rw [List.length_cons, show n + (xs.length + 1) = n + 1 + xs.length by omega]; exact h2⟩
theorem qd {put : S -> α -> S} {b : S -> Option (TR S ρ)} {γ : Type} {v : S -> γ} {f : γ -> α -> γ} {I : S -> Prop} {J : γ -> Prop} : ∀ {xs : List α} {s : S}, (∀ s x, x ∈ xs -> I s -> J (v s) -> ∃ s', b (put s x) = some (.nx s') /\ I s' /\ v s' = f (v s) x) -> (∀ c x, x ∈ xs -> J c -> J (f c x)) -> I s -> J (v s) -> ∃ s', cD put b xs s = some (.nx s') /\ I s' /\ v s' = xs.foldl f (v s)
 | [], s, _, _, h, _ => ⟨s, rfl, h, rfl⟩
 | x :: xs, s, hb, hj, h, j => by
  obtain ⟨s1, e1, h1, v1⟩ := hb s x (by simp) h j;obtain ⟨s2, e2, h2, v2⟩ := qd (xs := xs) (fun s y hy => hb s y (by simp [hy])) (fun c y hy => hj c y (by simp [hy])) h1 (by rw [v1]; exact hj _ _ (by simp) j);exact ⟨s2, by simp only [cD, e1, bind_some, e2], h2, by rw [v2, v1]; rfl⟩
theorem n4 {ft : α -> S -> Option (Bool × S)} {fe : α -> S -> Option (β × S)} {s : S} {f : α -> β} : ∀ {xs : List α}, (∀ x ∈ xs, ft x s = some (true, s)) -> (∀ x ∈ xs, fe x s = some (f x, s)) -> j5 ft fe xs s = some (xs.map f, s) := by
 intro xs
 induction xs with
 | nil => intro _ _; rfl
 | cons x xs ih =>
  intro h k;have ih := ih (fun y hy => h y (List.mem_cons_of_mem _ hy)) (fun y hy => k y (List.mem_cons_of_mem _ hy));simp only [j5, h x List.mem_cons_self, bind_some, if_true, k x List.mem_cons_self, ih, map_some, List.map_cons]
theorem xG {ft : α -> S -> Option (Bool × S)} {fe : α -> S -> Option (β × S)} {s : S} {f : α -> β} {p : α -> Bool} : ∀ {xs : List α}, (∀ x ∈ xs, ft x s = some (p x, s)) -> (∀ x ∈ xs, p x = true -> fe x s = some (f x, s)) -> j5 ft fe xs s = some ((xs.filter p).map f, s) := by
 intro xs
 induction xs with
 | nil => intro _ _; rfl
 | cons x xs ih =>
  intro h k;have ih := ih (fun y hy => h y (List.mem_cons_of_mem _ hy)) (fun y hy => k y (List.mem_cons_of_mem _ hy));cases hp : p x
  ·rw [List.filter_cons_of_neg (by rw [hp]; decide)]
   simp only [j5, h x List.mem_cons_self, bind_some, hp, Bool.false_eq_true, if_false, ih]
  ·rw [List.filter_cons_of_pos hp]
   simp only [j5, h x List.mem_cons_self, bind_some, hp, if_true, k x List.mem_cons_self hp, ih, map_some, List.map_cons]
theorem Gi {a b : Int} : (Py.ok rI a && Py.ok rI b && decide (min (Py.k rI) (Py.k rI) <= 50)) = true := rfl
theorem t3 {xs : List α} : (xs.all fun _ => true) = true := by simp
theorem yX {a b : List Int} : (Py.ok (rL rI) a && Py.ok (rL rI) b && decide (min (Py.k (rL rI)) (Py.k (rL rI)) <= 50)) = true := by
 show ((a.all fun _ => true) && (b.all fun _ => true) && decide (min (0 + 1) (0 + 1) <= 50)) = true;rw [t3, t3]; rfl
theorem CH {a b : List Int} : (Py.ok (rL rI) a && Py.ok (rM rI) b && decide (min (Py.k (rL rI)) (Py.k (rM rI)) <= 50)) = true := yX
theorem tK {f : α -> α -> Bool} (h : ∀ a, f a a = true) : ∀ xs : List α, tL f xs xs = true
 | [] => rfl
 | x :: xs => by simp only [tL, h, tK h xs, Bool.and_self]
theorem aq {c : Bool} {a b : α} (h : c = true) : (if c = true then a else b) = a := if_pos h
theorem FW {n : Nat} (h : n <= 1000) : n <= sizeLine := Nat.le_of_lt (L2.small1000 h)
theorem Fi {n : Nat} (h : n <= 1000) : n < sizeLine := L2.small1000 h
theorem gY {n : Nat} (h : n <= 1000) : gZ n = true := decide_eq_true (FW h)
theorem sP {n : Nat} (h : n <= 1000) : zT n = true := decide_eq_true (Fi h)
theorem Dj {xs : List α} {j : Nat} (h : j < xs.length) : atI xs (j : Int) = some xs[j] := L2.atI_nat (by simp [h])
theorem DQ {len : Nat} {z : Int} (h0 : 0 <= z) (h1 : z <= 1000) (h2 : len * z.toNat <= 1000) : nw len z = true := by
 simp only [nw, Bool.and_eq_true, Nat.ble_eq];exact ⟨by omega, by omega⟩
theorem wQ {z : Int} (h0 : -1000000 <= z) (h1 : z <= 1000000) : iE z = true := by
 simp only [iE, Nat.ble_eq];omega
theorem jk {x y : Int} (h : (-9223372036854775808 <= x /\ x <= 9223372036854775808) \/ (-9223372036854775808 <= y /\ y <= 9223372036854775808)) : gM x y = true := by
 simp only [gM, Bool.or_eq_true, Nat.ble_eq]; omega
theorem FI {x : Int} {y : Int} (h : decide (0 < y /\ y.natAbs.log2 < 9000) = true) : wm x y = true := h
theorem v6 {put : S -> α -> S} {b : S -> Option (TR S ρ)} {xs : List α} {s : S} {γ : Type} {k : TR S ρ -> Option γ} {P : S -> Prop} (Q : Option γ -> Prop) (h : ∃ s', cD put b xs s = some (.nx s') /\ P s') (hk : ∀ s', P s' -> Q (k (.nx s'))) : Q ((cD put b xs s).bind k) := by
 obtain ⟨a, e, p⟩ := h;rw [e]; exact hk a p
theorem jl {put : S -> α -> S} {b : S -> Option (TR S ρ)} {P : S -> Prop} {xs : List α} {s : S} (I : Nat -> S -> Prop) (h0 : I 0 s) (hb : ∀ k s x, xs[k]? = some x -> I k s -> ∃ s', b (put s x) = some (.nx s') /\ I (k + 1) s') (hP : ∀ s', I xs.length s' -> P s') : ∃ s', cD put b xs s = some (.nx s') /\ P s' := by
 obtain ⟨s', e, h⟩ := Bj (n := 0) (I := I) (fun k s x hx hi => by
  rw [Nat.zero_add] at hi ⊢;exact hb k s x hx hi) h0
 rw [Nat.zero_add] at h;exact ⟨s', e, hP s' h⟩
theorem zj {g : GF} {h : List Int × Unit -> Option (Bool × List Int × Unit)} {r : Rl (List Int)} (j : JF g h (Pc (rM rI) Pn) rB (Pc r Pn)) (ht : ∀ ns : List Int, ns.length <= 63 -> ∃ q, h (ns, ()) = some (true, q)) : ∀ ns : List Int, ns.length <= 63 -> ∃ d, g [.lst false (ns.map D.int)] = some (.bl true, [d]) := fun ns hl => by
 obtain ⟨q, e⟩ := ht ns hl;obtain ⟨d, ds', h1, h2, d', ds2, h3, _, h4⟩ := j (ns, ()) [.lst false (ns.map D.int)] true q ⟨_, [], rfl, ⟨false, _, rfl, wT ns⟩, rfl⟩ e;cases h2;rw [show ds2 = [] from h4] at h3;exact ⟨d', by rw [h1, h3]⟩
end
end TT
namespace DD
open PySem PySem.Spec PyProof.Rows L2
section
variable {X : Cx} {o : Expr} {i : Nat} {js : List DP} {lo hi : Option Expr} {pl ph : Option DP} {p2 pos : Pos}
end
end DD
namespace TT
open PySem L2 DD
section
variable {S : Type} {α β γ δ ρ : Type} {Γ Γ0 Γ1 Γ2 Γ3 Γ4 Γ' Γn Γh : aA S} {c c' : DE} {E : Ex S ρ}
end
end TT
namespace L2
open PySem PySem.Spec PyProof.Rows
section
variable {X : Cx}
end
end L2
namespace DD
open PySem PySem.Spec PyProof.Rows L2
section
variable {X : Cx}
end
end DD
namespace TT
open PySem L2 DD
end TT
namespace DD
open PySem PySem.Spec PyProof.Rows L2
section
variable {K : PySem.W.Frag} {F : Addr -> Prop} {H : Hp} {σD : ar} {σ : St} {R : Ro}
end
section
variable {X : Cx} {e : Expr} {c : DE} {apos cpos : Pos} {i : Nat} {js : List DP}
end
theorem dP {c : Const} {k p} : i4 (.Constant c k p) := by intro _ _; rfl
section
variable {X : Cx} {a b e : Expr} {es : List Expr} {ps : List DP} {c c' : DE} {pos apos cpos : Pos} {i : Nat} {js : List DP} {o : Expr}
end
end DD
namespace TT
open PySem L2 DD
section
variable {S : Type} {α β γ δ ρ : Type} {Γ Γ0 Γ1 Γ2 Γ3 Γ4 Γ' Γn Γh : aA S} {c c' : DE} {E : Ex S ρ}
end
end TT
namespace DD
open PySem PySem.Spec PySem.Calls PyProof.Rows L2 PySem.W PySem.Builtin PySem.Builtin.Str
section
variable {prog : Program} {w : World} {A : Around} {E : Value -> Shared -> Prop} {s : Shared}
end
section
variable {X : Cx} {aa : List (Addr × Obj)} {σ : St} {H : Hp} {s : Shared} {F : Addr -> Prop}
end
end DD
namespace L2
open PySem PySem.Spec PyProof.Rows
section
variable {X : Cx}
end
end L2
namespace DD
open PySem PySem.Spec PyProof.Rows L2
section
variable {X : Cx}
end
section
variable {X : Cx} {elt : Expr} {ifs : List Expr} {t : DT} {c : DE} {pos : Pos} {scope : Scope}
end
end DD
namespace TT
open PySem L2 DD
mutual
noncomputable def FZ : PyData -> PyData -> Bool
 | .int i, .int j => i == j
 | .str x, .str y => x == y
 | .list xs, .list ys => BT xs ys
 | .tuple xs, .tuple ys => BT xs ys
 | _, _ => false
noncomputable def BT : List PyData -> List PyData -> Bool
 | [], [] => true
 | x :: xs, y :: ys => FZ x y && BT xs ys
 | _, _ => false
end
mutual
noncomputable def ER : PyData -> Bool
 | .int i => Nat.ble i.natAbs 999999999999
 | .str x => (x.cps.toList.all fun c => Nat.ble c 1114111) && Nat.ble x.cps.size 1000
 | .list xs => yW xs
 | .tuple xs => yW xs
 | _ => false
noncomputable def yW : List PyData -> Bool
 | [] => true
 | x :: xs => ER x && yW xs
end
noncomputable def dA (p : PyData) : Option PyData := if (ER p && Nat.ble p.weight 1048576 && Nat.ble p.depth 40) = true then some p else none
section
variable {S : Type} {α β : Type} {Γ Γ1 Γ2 : aA S}
end
end TT
namespace L2
open PySem PySem.Spec PyProof.Rows
section
variable {κ : Type} [DecidableEq κ]
end
section
variable {P : Program} {w : World} {H : Hp} {h : Heap} {a : Addr}
end
section
variable {X : Cx} {aa : List (Addr × Obj)} {σ : St} {H : Hp} {s : Shared} {a : Addr} {y v : V} {u r : Value} {o : Option V} {A : Around} {E : Value -> Shared -> Prop}
end
section
variable {X : Cx} {aa : List (Addr × Obj)} {σ : St} {H : Hp} {s : Shared} {a : Addr} {kvs : List (fD × V)} {k : fD} {u : Value} {A : Around} {E : Value -> Shared -> Prop}
end
section
variable {X : Cx} {o i e value : Expr} {pos pos' tpos : Pos} {td ty tv : TE}
end
section
variable {X : Cx} {pos : Pos}
end
end L2
namespace L2
open PySem PySem.Spec PySem.Calls PyProof.Rows
section
variable {prog : Program} {w : World} {A : Around} {E : Value -> Shared -> Prop} {s : Shared}
end
section
variable {prog : Program} {w : World} {A : Around} {R : Result -> Shared -> Prop} {I d : Addr} {h0 : Heap} {H : Hp} {n : Nat} {P : Nat -> Value -> Prop} {St : Nat -> Heap -> Prop} {fp : List Addr}
end
section
variable {X : Cx}
end
section
variable {prog : Program} {w : World} {A : Around} {E : Value -> Shared -> Prop} {s : Shared}
end
section
variable {X : Cx}
end
end L2
namespace DD
open PySem PySem.Spec PyProof.Rows L2
section
variable {K : PySem.W.Frag} {F : Addr -> Prop} {H : Hp} {R : Ro} {ks : List (List fD)} {xs : List D} {v : V} {o : Bool}
variable {σD : ar} {σ : St}
end
section
variable {X : Cx}
end
end DD
namespace TT
open PySem L2 DD
noncomputable abbrev K3 := Int × Int × Int
noncomputable def k3 (p : K3) : List fD := [Sum.inl p.1, Sum.inl p.2.1, Sum.inl p.2.2]
section
variable {S : Type} {α β ρ : Type} {Γ Γ1 Γ2 : aA S} {E : Ex S ρ}
end
end TT
namespace DD
open PySem PySem.Spec PyProof.Rows L2
section
variable {X : Cx} {e st : Expr} {lo hi : Option Expr} {pl ph : Option DP} {p q : DP} {pos p2 : Pos}
end
end DD
namespace TT
open PySem L2 DD
section
variable {S : Type} {α β γ : Type} {Γ : aA S}
end
section
variable {α β γ α' β' γ' : Type}
instance {r : Rl α} {q : Rl β} {t : Rl γ} {r' : Rl α'} {q' : Rl β'} {t' : Rl γ'} [Py r] [Py q] [Py t] [Py r'] [Py q'] [Py t'] {f : α -> α' -> Bool} {g : β -> β' -> Bool} {h : γ -> γ' -> Bool} [k : EqR r r' f] [l : EqR q q' g] [m : EqR t t' h] :
  EqR (du r q t) (du r' q' t') (fun a b => f a.1 b.1 && (g a.2.1 b.2.1 && h a.2.2 b.2.2)) := ⟨fun a b => by
 simp only [Py.pe, PyData.eqv, PyData.eqvAll, k.eqv, l.eqv, m.eqv, Bool.and_true]⟩
end
end TT
namespace DD
open PySem PySem.Spec PyProof.Rows L2
section
variable {X : Cx} {a b c : Expr} {p q t : DP} {pos : Pos} {op op' : CmpOp} {g g' : D -> D -> Option D}
end
end DD
namespace TT
open PySem L2 DD
section
variable {S : Type} {α β γ ρ : Type} {Γ Γb Γh : aA S} {E : Ex S ρ}
end
end TT
namespace DD
open PySem PySem.Spec PyProof.Rows L2
section
variable {X : Cx} {e o a b : Expr} {es : List Expr} {p q : DP} {c c' : DE} {pos apos cpos : Pos} {i : Nat} {js : List DP}
end
end DD
namespace TT
open PySem L2 DD
section
variable {S α β : Type} {Γ Γ1 : aA S}
end
end TT
namespace PySem.W
open PySem PySem.Calls PyProof.Rows
noncomputable def Kp (h h' : Heap) : Prop := ∀ b o, h.get? b = some o -> h'.get? b = some o
section
variable {prog : Program} {w : World} {A : Around} {E : Value -> Shared -> Prop} {s : Shared} {h₀ : Heap} {a : Addr} {vs : List Value} {κ : SortKind} {lt : Nat -> Nat -> Option Bool} {p : Array Nat}
end
section
variable {prog : Program} {w : World} {A : Around} {E : Value -> Shared -> Prop} {s : Shared} {fin : Bool} {Q : Bool -> Shared -> Prop}
end
end PySem.W
namespace L2
open PySem PySem.Spec PyProof.Rows PySem.W
section
variable {X : Cx} {aa : List (Addr × Obj)} {σ : St} {H : Hp} {s : Shared} {h' : Heap}
end
end L2
namespace DD
open PySem PySem.Spec PyProof.Rows L2 PySem.W
section
variable {X : Cx} {e : Expr} {c : DE}
end
end DD
namespace DD
open PySem PySem.Spec PyProof.Rows L2
section
variable {X : Cx} {e : Expr} {lo hi : Option Expr} {pl ph : Option DP} {c : DE} {pos p2 : Pos}
end
end DD
namespace TT
open PySem L2 DD PySem.W
section
variable {S : Type} {α β γ : Type} {Γ Γ1 : aA S}
end
end TT
namespace DD
open PySem PySem.Spec PyProof.Rows L2
section
variable {X : Cx} {e f : Expr} {c c' : DE} {pos p2 : Pos}
end
end DD
namespace TT
open PySem L2 DD
section
variable {S : Type} {α β γ : Type} {Γ Γ1 Γ2 : aA S}
end
end TT
namespace PySem.W
open PySem PySem.Calls PyProof.Rows PyProof.V PySem.Spec
section
variable {prog : Program} {w : World} {A : Around} {E : Value -> Shared -> Prop} {s : Shared} {it d v : Addr} {i ep : Nat} {es : Array DictEntry}
end
end PySem.W
namespace PySem.W
open PySem PySem.Calls PyProof.Rows
section
variable {prog : Program} {w : World} {A : Around} {E : Value -> Shared -> Prop} {s : Shared} {vs : List Value} {κ : SortKind} {lt : Nat -> Nat -> Option Bool}
end
end PySem.W
namespace L2
open PySem PySem.Spec PySem.Calls PyProof.Rows PySem.W
theorem p7 : ∀ as : List Addr, Vals (as.map V.ref) (as.map Value.ref)
 | [] => .nil
 | _ :: as => .cons rfl (p7 as)
section
variable {X : Cx}
end
end L2
namespace DD
open PySem PySem.Spec PyProof.Rows L2 PySem.W
section
variable {K : PySem.W.Frag} {F : Addr -> Prop} {H : Hp}
mutual
theorem Ow.nt : ∀ {d : D} {v : V} {L : List Addr}, Ow K F H d v L -> ∀ a ∈ L, ∀ vs, H a ≠ some (.tup vs)
 | .hole, _, _, h, a, ha => by simp only [Ow] at h; subst h; cases ha
 | .cell, _, _, h, a, ha => by
  simp only [Ow] at h;obtain ⟨b, o, rfl, e, rfl⟩ := h;rw [List.mem_singleton.mp ha];intro vs q;rw [e] at q;obtain ⟨o, n⟩ := o;cases q;exact n
 | .node _ _, _, _, h, a, ha => by simp only [Ow] at h; obtain ⟨rfl, e, rfl⟩ := h; rw [List.mem_singleton.mp ha, e]; intro vs q; cases q
 | .pin _ ⟨o, n⟩, _, _, h, a, ha => by
  simp only [Ow] at h;obtain ⟨rfl, e, rfl⟩ := h;rw [List.mem_singleton.mp ha, e];intro vs q;cases q;exact n
 | .non, _, _, h, a, ha => by simp only [Ow] at h; rw [h.2] at ha; cases ha
 | .bl _, _, _, h, a, ha => by simp only [Ow] at h; rw [h.2] at ha; cases ha
 | .int _, _, _, h, a, ha => by simp only [Ow] at h; rw [h.2] at ha; cases ha
 | .str _, _, _, h, a, ha => by simp only [Ow] at h; rw [h.2] at ha; cases ha
 | .ty _, _, _, h, a, ha => by simp only [Ow] at h; rw [h.2] at ha; cases ha
 | .cls _, _, _, h, a, ha => by simp only [Ow] at h; rw [h.2] at ha; cases ha
 | .lst true xs, _, _, h, a, ha => by
  simp only [Ow] at h;obtain ⟨b, vs, L', rfl, e, r, rfl⟩ := h;rcases List.mem_cons.mp ha with rfl | ha
  ·rw [e]; intro vs q; cases q
  ·exact OwL.nt r a ha
 | .lst false xs, _, _, h, a, ha => by simp only [Ow] at h; obtain ⟨_, _, _, _, _, rfl⟩ := h; cases ha
 | .tup xs, _, _, h, a, ha => by simp only [Ow] at h; obtain ⟨_, _, _, _, r⟩ := h; exact OwL.nt r a ha
 | .obj true C ks xs, _, _, h, a, ha => by
  simp only [Ow] at h;obtain ⟨b, dx, vs, L', rfl, e, _, r, rfl⟩ := h;rcases List.mem_cons.mp ha with rfl | ha
  ·rw [e]; intro vs q; cases q
  ·exact OwL.nt r a ha
 | .obj false C ks xs, _, _, h, a, ha => by simp only [Ow] at h; obtain ⟨_, _, _, _, _, _, _, _, rfl⟩ := h; cases ha
 | .dct true ks xs, _, _, h, a, ha => by
  simp only [Ow] at h;obtain ⟨b, vs, L', rfl, e, _, r, rfl⟩ := h;rcases List.mem_cons.mp ha with rfl | ha
  ·rw [e]; intro vs q; cases q
  ·exact OwL.nt r a ha
 | .dct false ks xs, _, _, h, a, ha => by simp only [Ow] at h; obtain ⟨_, _, _, _, _, _, _, rfl⟩ := h; cases ha
theorem OwL.nt : ∀ {xs : List D} {vs : List V} {L : List Addr}, OwL K F H xs vs L -> ∀ a ∈ L, ∀ vs, H a ≠ some (.tup vs)
 | [], _, _, h, a, ha => by simp only [OwL] at h; rw [h.2] at ha; cases ha
 | x :: xs, _, _, h, a, ha => by
  simp only [OwL] at h;obtain ⟨v, ws, L1, L2, rfl, h1, h2, rfl⟩ := h;rcases List.mem_append.mp ha with ha | ha
  ·exact Ow.nt h1 a ha
  ·exact OwL.nt h2 a ha
end
theorem OwP.nt : ∀ {R : Ro} {L : List Addr}, OwP K F H R L -> ∀ a ∈ L, ∀ vs, H a ≠ some (.tup vs)
 | [], _, h, a, ha => by cases h; cases ha
 | (d, v) :: R, _, h, a, ha => by
  obtain ⟨L1, L2, h1, h2, rfl⟩ := h;rcases List.mem_append.mp ha with ha | ha
  ·exact h1.nt a ha
  ·exact OwP.nt h2 a ha
variable {σD : ar} {σ : St} {R : Ro} {as : List Addr}
end
section
variable {X : Cx} {e : Expr} {q : DP}
end
end DD
namespace TT
open PySem L2 DD PySem.W
section
variable {S : Type} {Γ : aA S}
end
end TT
namespace DD
open PySem PySem.Spec PyProof.Rows L2
section
variable {X : Cx}
end
end DD
namespace TT
open PySem L2 DD
end TT
namespace DD
open PySem PySem.Spec PyProof.Rows L2
mutual
noncomputable def iI : D -> Bool
 | .lst true xs => oA xs
 | .lst false _ => false
 | .tup xs => oA xs
 | .obj true _ _ xs => oA xs
 | .obj false _ _ _ => false
 | .dct true _ xs => oA xs
 | .dct false _ _ => false
 | _ => true
noncomputable def oA : List D -> Bool
 | [] => true
 | x :: xs => iI x && oA xs
end
section
variable {K : PySem.W.Frag} {F F' : Addr -> Prop} {H H' : Hp} {A : List Addr}
mutual
theorem Ow.thaw (hA : ∀ a ∈ A, ∀ vs, H a ≠ some (.tup vs)) : ∀ {d : D} {v : V} {L : List Addr}, Ow K F H d v L -> iI d = true -> Ow K (fun a => F a /\ a ∉ A) H d v L
 | .hole, _, _, h, _ => by simp only [Ow] at h ⊢; exact h
 | .cell, _, _, h, _ => by simp only [Ow] at h ⊢; exact h
 | .node _ _, _, _, h, _ => by simp only [Ow] at h ⊢; exact h
 | .pin _ _, _, _, h, _ => by simp only [Ow] at h ⊢; exact h
 | .non, _, _, h, _ => by simp only [Ow] at h ⊢; exact h
 | .bl _, _, _, h, _ => by simp only [Ow] at h ⊢; exact h
 | .int _, _, _, h, _ => by simp only [Ow] at h ⊢; exact h
 | .str _, _, _, h, _ => by simp only [Ow] at h ⊢; exact h
 | .ty _, _, _, h, _ => by simp only [Ow] at h ⊢; exact h
 | .cls _, _, _, h, _ => by simp only [Ow] at h ⊢; exact h
 | .lst true xs, _, _, h, f => by
  simp only [Ow] at h ⊢;simp only [iI] at f;obtain ⟨b, vs, L', rfl, e, r, rfl⟩ := h;exact ⟨b, vs, L', rfl, e, OwL.thaw hA r f, rfl⟩
 | .lst false xs, _, _, h, f => by simp only [iI] at f; cases f
 | .tup xs, _, _, h, f => by
  simp only [Ow] at h ⊢;simp only [iI] at f;obtain ⟨a, vs, rfl, t, r⟩ := h;refine ⟨a, vs, rfl, ?_, OwL.thaw hA r f⟩;rcases t with ⟨t1, t2⟩ | t
  ·exact .inl ⟨⟨t1, fun z => hA a z vs t2⟩, t2⟩
  ·exact .inr t
 | .obj true C ks xs, _, _, h, f => by
  simp only [Ow] at h ⊢;simp only [iI] at f;obtain ⟨b, dx, vs, L', rfl, e, el, r, rfl⟩ := h;exact ⟨b, dx, vs, L', rfl, e, el, OwL.thaw hA r f, rfl⟩
 | .obj false C ks xs, _, _, h, f => by simp only [iI] at f; cases f
 | .dct true ks xs, _, _, h, f => by
  simp only [Ow] at h ⊢;simp only [iI] at f;obtain ⟨b, vs, L', rfl, e, el, r, rfl⟩ := h;exact ⟨b, vs, L', rfl, e, el, OwL.thaw hA r f, rfl⟩
 | .dct false ks xs, _, _, h, f => by simp only [iI] at f; cases f
theorem OwL.thaw (hA : ∀ a ∈ A, ∀ vs, H a ≠ some (.tup vs)) : ∀ {xs : List D} {vs : List V} {L : List Addr}, OwL K F H xs vs L -> oA xs = true -> OwL K (fun a => F a /\ a ∉ A) H xs vs L
 | [], _, _, h, _ => by simp only [OwL] at h ⊢; exact h
 | x :: xs, _, _, h, f => by
  simp only [OwL] at h ⊢;simp only [oA, Bool.and_eq_true] at f;obtain ⟨v, ws, L1, L2, rfl, h1, h2, rfl⟩ := h;exact ⟨v, ws, L1, L2, rfl, Ow.thaw hA h1 f.1, OwL.thaw hA h2 f.2, rfl⟩
end
noncomputable def tI (o : Option D) : Option D := o.bind fun d => if iI d = true then some d else none
noncomputable def iF (σ : ar) : ar := σ.map tI
theorem mx (hA : ∀ a ∈ A, ∀ vs, H a ≠ some (.tup vs)) : ∀ {σD : ar} {σ : L2.St} {L : List Addr}, OwP K F H (sl σD σ) L -> ∃ L', OwP K (fun a => F a /\ a ∉ A) H (sl (iF σD) σ) L' /\ L'.Sublist L
 | [], _, L, h => ⟨[], by unfold iF; simp only [List.map_nil, sl]; rfl, List.nil_sublist _⟩
 | none :: σD, [], L, h => ⟨[], by unfold iF; simp only [List.map_cons, sl]; rfl, List.nil_sublist _⟩
 | some _ :: σD, [], L, h => by
  refine ⟨[], ?_, List.nil_sublist _⟩;unfold iF;simp only [List.map_cons, tI, bind_some];split <;> (simp only [sl]; rfl)
 | none :: σD, o :: σ, L, h => by
  have h' : OwP K F H (sl σD σ) L := by simpa only [sl] using h
  obtain ⟨L', e, s⟩ := mx hA h';exact ⟨L', by simpa only [iF, List.map_cons, tI, Option.bind_none, sl] using e, s⟩
 | some d :: σD, none :: σ, L, h => by
  have h' : OwP K F H (sl σD σ) L := by simpa only [sl] using h
  obtain ⟨L', e, s⟩ := mx hA h';refine ⟨L', ?_, s⟩;unfold iF;simp only [List.map_cons, tI, bind_some];split <;> (simp only [sl]; exact e)
 | some d :: σD, some v :: σ, L, h => by
  have h' : OwP K F H ((d, v) :: sl σD σ) L := by simpa only [sl] using h
  obtain ⟨L1, L2, h1, h2, rfl⟩ := h';obtain ⟨L', e, s⟩ := mx hA h2;unfold iF;simp only [List.map_cons, tI, bind_some];split
  ·rename_i hf
   exact ⟨L1 ++ L', by simp only [sl]; exact ⟨L1, L', h1.thaw hA hf, e, rfl⟩, s.append_left _⟩
  ·exact ⟨L', by simp only [sl]; exact e, s.trans (List.sublist_append_right _ _)⟩
theorem Mt.thaw : ∀ {σD : ar} {σ : L2.St}, Mt σD σ -> Mt (iF σD) σ
 | [], [], h => h
 | none :: σD, _ :: σ, h => Mt.thaw (σD := σD) (σ := σ) h
 | some d :: σD, some _ :: σ, h => by
  have := Mt.thaw (σD := σD) (σ := σ) h
  unfold iF;simp only [List.map_cons, tI, bind_some];split <;> exact this
open Classical in
noncomputable def vT (H : Hp) (a : Addr) : D := match H a with
 | some o => if h : NT o then .pin a ⟨o, h⟩ else .hole
 | none => .hole
noncomputable def aa (H : Hp) (M : List Addr) : Ro := M.map fun a => (vT H a, V.ref a)
theorem su {a : Addr} {o : HO} (e : H a = some o) (n : NT o) : vT H a = .pin a ⟨o, n⟩ := by
 unfold vT;rw [e];simp only [n, dif_pos]
theorem Ep {o : HO} (h : ∀ vs, o ≠ .tup vs) : NT o := by
 cases o <;> first | exact trivial | exact absurd rfl (h _)
theorem uP : ∀ {M : List Addr}, (∀ a ∈ M, ∃ o, H a = some o /\ NT o) -> OwP K F H (aa H M) M
 | [], _ => rfl
 | a :: M, h => by
  obtain ⟨o, e, n⟩ := h a (by simp);refine ⟨[a], M, ?_, uP fun b hb => h b (by simp [hb]), rfl⟩;rw [su e n];simp only [Ow];exact ⟨trivial, e, trivial⟩
theorem qc : ∀ {M M' : List Addr}, (∀ a ∈ M, ∃ o, H a = some o /\ NT o) -> OwP K F' H' (aa H M) M' -> M' = M /\ ∀ a ∈ M, H' a = H a
 | [], M', _, h => ⟨h, fun a ha => by cases ha⟩
 | a :: M, M', hs, h => by
  obtain ⟨o, e, n⟩ := hs a (by simp);obtain ⟨L1, L2, h1, h2, rfl⟩ := h;rw [su e n] at h1;simp only [Ow] at h1;obtain ⟨_, e', rfl⟩ := h1;obtain ⟨rfl, k⟩ := qc (fun b hb => hs b (by simp [hb])) h2;refine ⟨rfl, fun b hb => ?_⟩;rcases List.mem_cons.mp hb with rfl | hb
  ·rw [e', e]
  ·exact k b hb
variable {σD : ar} {σ : L2.St} {R : Ro} {d : D} {v : V}
theorem OwP.thaw (hA : ∀ a ∈ A, ∀ vs, H a ≠ some (.tup vs)) : ∀ {S : Ro} {L : List Addr}, OwP K F H S L -> (∀ z ∈ S, iI z.1 = true) -> OwP K (fun a => F a /\ a ∉ A) H S L
 | [], _, h, _ => h
 | (d, v) :: S, _, h, f => by
  obtain ⟨L1, L2, h1, h2, rfl⟩ := h;exact ⟨L1, L2, h1.thaw hA (f (d, v) (by simp)), OwP.thaw hA h2 fun z hz => f z (by simp [hz]), rfl⟩
theorem Rel.thaw (r : Rel K F H σD σ ((d, v) :: R)) : ∃ (F' : Addr -> Prop) (P : Ro), Ext F H F' H /\ Rel K F' H σD σ ((d.fz, v) :: P) /\
  ∀ F2 H2 σD2 σ2 S, Ext F' H F2 H2 -> Rel K F2 H2 σD2 σ2 (S ++ P) -> (∀ z ∈ S, iI z.1 = true) -> ∃ F3, Ext F H F3 H2 /\ Rel K F3 H2 (iF σD2) σ2 (S ++ ((d, v) :: R)) := by
 obtain ⟨L, ⟨L1, L2, h1, h2, rfl⟩, n, f⟩ := r.front.own;obtain ⟨M, N, rfl, hm, hn⟩ := OwP.split (R := R) h2;have hMd : ∀ a ∈ M, ∃ o, H a = some o /\ NT o := fun a ha => by
  obtain ⟨o, e⟩ := hm.dom a ha;exact ⟨o, e, Ep fun vs z => hm.nt a ha vs (by rw [e, z])⟩
 obtain ⟨n1, n2, n3⟩ := List.nodup_append.mp n;have x : Ext F H (fun a => F a \/ a ∈ L1) H := fun a h => ⟨.inl h, rfl⟩
 refine ⟨fun a => F a \/ a ∈ L1, aa H M, x, Rel.of r.mt ⟨⟨M ++ N, ⟨[], M ++ N, h1.fz (fun a h => .inl h) fun a h => .inr h, ?_, rfl⟩, n2, fun a ha fa => ?_⟩, fun a fa => ?_⟩, fun F2 H2 σD2 σ2 S x2 r2 hS => ?_⟩
 ·exact (uP hMd).append (hn.mono x fun _ _ => rfl)
 ·rcases fa with fa | fa
  ·exact f a (List.mem_append_right _ ha) fa
  ·exact n3 a fa a ha rfl
 ·rcases fa with fa | fa
  ·exact r.front.dom a fa
  ·exact h1.dom a fa
 ·obtain ⟨L', ho, nd, ff⟩ := r2.front.own
  obtain ⟨Z, N', rfl, hz, hn'⟩ := OwP.split (R := S ++ aa H M) ho;obtain ⟨Y, M', rfl, hy, hm'⟩ := OwP.split (R := S) hz;obtain ⟨rfl, hk⟩ := qc hMd hm';have hA2 : ∀ a ∈ L1, F2 a /\ H2 a = H a := fun a ha => x2 a (.inr ha)
  have hA : ∀ a ∈ L1, ∀ vs, H2 a ≠ some (.tup vs) := fun a ha vs => by rw [(hA2 a ha).2]; exact h1.nt a ha vs
  obtain ⟨N2, hn2, sub⟩ := mx hA hn';have x3 : Ext F H (fun a => F2 a /\ a ∉ L1) H2 := fun a fa => ⟨⟨(x2 a (.inl fa)).1, fun z => f a (List.mem_append_left _ z) fa⟩, (x2 a (.inl fa)).2⟩
  have subs : ((Y ++ M') ++ N2).Sublist ((Y ++ M') ++ N') := sub.append_left _;have pm : (Y ++ (L1 ++ M') ++ N2).Perm (L1 ++ ((Y ++ M') ++ N2)) := by
   have h := List.perm_append_comm (l₁ := Y) (l₂ := L1);have h2 := (h.append_right M').append_right N2;simpa using h2
  have nd2 : (L1 ++ ((Y ++ M') ++ N2)).Nodup := by
   rw [List.nodup_append];refine ⟨n1, nd.sublist subs, fun a ha b hb e => ?_⟩;subst e;exact ff a (subs.subset hb) (hA2 a ha).1
  have hdr : OwP K (fun a => F2 a /\ a ∉ L1) H2 ((d, v) :: R) (L1 ++ M') := ⟨L1, M', h1.mono x3 fun a ha => (hA2 a ha).2, hm.mono x3 hk, rfl⟩;refine ⟨fun a => F2 a /\ a ∉ L1, x3, Rel.of r2.mt.thaw ⟨⟨Y ++ (L1 ++ M') ++ N2, ((hy.thaw hA hS).append hdr).append hn2, pm.nodup_iff.mpr nd2, fun a ha fa => ?_⟩, fun a fa => r2.front.dom a fa.1⟩⟩;rcases List.mem_append.mp (pm.mem_iff.mp ha) with ha | ha
  ·exact fa.2 ha
  ·exact ff a (subs.subset ha) fa.1
end
noncomputable def oC (i : Nat) (c : DE) : DE := fun σ => (bf σ i).bind fun d => (c (σ.set i (some d.fz))).bind fun p => if iI p.1 = true then some (p.1, (iF p.2).set i (some d)) else none
noncomputable def oD (j : Nat) (c : DE) : DE := fun σ => (bf σ j).bind fun d => (c (σ.set j none)).map fun p => (p.1, p.2.set j (some d))
section
variable {X : Cx} {e : Expr} {c : DE}
theorem AN (i : Nat) (h : QE X e c) : QE X e (oC i c) := aO h fun σ H Q hq0 => by
 obtain ⟨F, R, σD, d, σD', r, ec, k⟩ := hq0;unfold oC at ec;obtain ⟨d0, h0, ec⟩ := Option.bind_eq_some_iff.mp ec;obtain ⟨⟨d1, σ1⟩, h1, ec⟩ := Option.bind_eq_some_iff.mp ec;dsimp only at ec;split at ec
 ·rename_i hf
  cases ec;obtain ⟨v, hv, r1⟩ := r.take (bm h0);obtain ⟨F', P, x1, r2, back⟩ := r1.thaw;have r3 := r2.put hv;rw [List.set_set] at r3;refine ⟨F', P, _, d, σ1, r3, h1, fun F2 H2 w x2 r4 => ?_⟩;obtain ⟨F3, x3, r5⟩ := back F2 H2 σ1 σ [(d, w)] x2 r4 (fun z hz => by rw [List.mem_singleton.mp hz]; exact hf);exact k F3 H2 w x3 ((r5.perm (.swap _ _ _)).put hv)
 ·cases ec
theorem AO (j : Nat) (h : QE X e c) : QE X e (oD j c) := aO h fun σ H Q hq0 => by
 obtain ⟨F, R, σD, d, σD', r, ec, k⟩ := hq0;unfold oD at ec;obtain ⟨d0, h0, ec⟩ := Option.bind_eq_some_iff.mp ec;obtain ⟨⟨d1, σ1⟩, h1, ec⟩ := cB ec;cases ec;obtain ⟨v, hv, r1⟩ := r.take (bm h0);exact ⟨F, _, _, d1, σ1, r1, h1, fun F2 H2 w x2 r4 => k F2 H2 w x2 ((r4.perm (.swap _ _ _)).put hv)⟩
end
end DD
namespace TT
open PySem L2 DD
class Ff {α : Type} (r : Rl α) : Prop where
 f : ∀ a d, r a d -> iI d = true
theorem All2.ff {α : Type} {r : Rl α} (k : ∀ a d, r a d -> iI d = true) : ∀ {as : List α} {ds : List D}, All2 r as ds -> oA ds = true
 | _, _, .nil => rfl
 | _, _, .cons a h => by simp only [oA, k _ _ a, h.ff k, Bool.and_self]
section
variable {α β γ δ : Type}
instance : Ff rI := ⟨fun _ _ h => by cases h; rfl⟩
instance {r : Rl α} [k : Ff r] : Ff (rL r) := ⟨fun _ _ hq0 => by obtain ⟨ds, e, h⟩ := hq0; rw [e]; simp only [iI]; exact h.ff k.f⟩
end
section
variable {S : Type} {α β : Type} {Γ Γ1 Γ2 : aA S}
inductive Tw : aA S -> aA S -> Prop
 | nil : Tw [] []
 | non {a} {Γ Γ'} : Tw Γ Γ' -> Tw (a :: Γ) (none :: Γ')
 | som {α : Type} {g : S -> α} {r : Rl α} {Γ Γ'} : Ff r -> Tw Γ Γ' -> Tw (some ⟨g, r⟩ :: Γ) (some ⟨g, r⟩ :: Γ')
theorem Tw.sat {s : S} (w : Tw Γ1 Γ2) : ∀ {σ : ar}, Sat Γ1 s σ -> Sat Γ2 s (iF σ) := by
 induction w with
 | nil => intro σ h; cases σ with | nil => exact h | cons _ _ => exact h.elim
 | non _ ih => intro σ h; cases σ with | nil => exact h.elim | cons x σ => exact ⟨trivial, ih h.2⟩
 | som f _ ih =>
  intro σ h;cases σ with
  | nil => exact h.elim
  | cons x σ =>
   obtain ⟨d, e, hd⟩ := h.1;refine ⟨⟨d, ?_, hd⟩, ih h.2⟩;rw [e];simp only [tI, bind_some, f.f _ _ hd, if_true]
theorem Bn (i : Nat) {get : S -> β} {put : S -> β -> S} {q q' : Rl β} [z : Fz q q'] {c : DE} {r : Rl α} [k : Ff r] {f : S -> Option (α × S)} (h : JE (Γ.set i (some ⟨get, q'⟩)) c f r Γ1) (w : Tw Γ1 Γ2) (hi : Γ[i]? = some (some ⟨get, q⟩)) (hg : autoParam (∀ s v, get (put s v) = v) jP._auto_1)
  (hf : autoParam (∀ v, Fr (fun s => put s v) (Γ2.set i none)) j3._auto_1) :
  JE Γ (oC i c) (fun s => (f s).map fun p => (p.1, put p.2 (get s))) r (Γ2.set i (some ⟨get, q⟩)) := fun s σ v s' hs e => by
 obtain ⟨⟨a, s1⟩, e1, e⟩ := mp e;cases e;obtain ⟨d, hd, rd⟩ := hs.get hi;obtain ⟨x, σ1, hx, rx, h1⟩ := h s (σ.set i (some d.fz)) a s1 (hs.set ⟨_, rfl, z.f _ _ rd⟩) e1;refine ⟨x, _, by simp only [oC, hd, bind_some, hx, k.f _ _ rx, if_true]; rfl, rx, ?_⟩;exact (w.sat h1).put hg hf rd
theorem Bo (j : Nat) {get : S -> β} {put : S -> β -> S} {q : Rl β} {c : DE} {r : Rl α} {f : S -> Option (α × S)} (h : JE (Γ.set j none) c f r Γ1) (hi : Γ[j]? = some (some ⟨get, q⟩)) (hg : autoParam (∀ s v, get (put s v) = v) jP._auto_1)
  (hf : autoParam (∀ v, Fr (fun s => put s v) (Γ1.set j none)) j3._auto_1) :
  JE Γ (oD j c) (fun s => (f s).map fun p => (p.1, put p.2 (get s))) r (Γ1.set j (some ⟨get, q⟩)) := fun s σ v s' hs e => by
 obtain ⟨⟨a, s1⟩, e1, e⟩ := mp e;cases e;obtain ⟨d, hd, rd⟩ := hs.get hi;obtain ⟨x, σ1, hx, rx, h1⟩ := h s (σ.set j none) a s1 hs.setn e1;exact ⟨x, _, by simp only [oD, hd, bind_some, hx, map_some], rx, h1.put hg hf rd⟩
end
end TT
namespace DD
open PySem PySem.Spec PyProof.Rows L2
noncomputable def oF (i : Nat) (js : List DP) : DE := fun σ => (bf σ i).bind fun t => (gz js σ).bind fun path => match cF t path with
 | some (.lst true _) => some (.non, σ.set i (some (dO t path (.lst true []))))
 | _ => none
section
variable {X : Cx} {e o : Expr} {es : List Expr} {ps : List DP} {p : DP} {pos apos cpos : Pos} {i : Nat} {js : List DP}
theorem AS (ho : QP X o i js) (hbase : autoParam (attributeBase o "clear" X.env (eval o X.env) = eval o X.env) au._auto_1) (hline : autoParam ((apos.endLine == cpos.line) = true) au._auto_1) : QE X (.Call (.Attribute o "clear" apos) [] [] cpos) (oF i js) :=
 aO (Cu PySem.F.plainAttrs_list PySem.F.slot_list_clear PySem.F.type_list_clear y7 ho hbase hline) fun σ H Q hq0 => by
  obtain ⟨F, R, σD, d, σD', r, ec, k⟩ := hq0;unfold oF at ec;obtain ⟨t, h1, ec⟩ := Option.bind_eq_some_iff.mp ec;obtain ⟨path, h2, ec⟩ := Option.bind_eq_some_iff.mp ec;split at ec
  ·rename_i xs h3
   cases ec;obtain ⟨v0, hv0, r0⟩ := r.take (bm h1);obtain ⟨l0, vs0, lc0, hl0, _⟩ := Rel.listAt (S := []) r0 h3;refine ⟨F, R, σD, v0, path, .ref l0, r, hv0, h2, lc0, fun F1 H1 g1 => ⟨.inl ⟨rfl, vs0, .inl (.inl (g1.k _ _ hl0))⟩, ?_⟩⟩;obtain ⟨v1, hv1, r1⟩ := (r.grow g1).take (bm h1);rw [hv0] at hv1; cases hv1;obtain ⟨l, vs, lc, hl, hlen, upd'⟩ := Rel.listAt (S := []) r1 h3;have el : l0 = l := by
    have := (lc0.grow g1.k).uniq lc
    injection this
   subst el;obtain ⟨r3, x3⟩ := upd' [] [] (xs.zip vs) (by simp) rfl;refine ⟨l0, vs, rfl, rfl, hl, ?_⟩;have r4 := (Rel.put (R := xs.zip vs ++ R) r3 hv0);rw [List.set_set] at r4;exact k F1 _ .non (g1.x.trans x3) (r4.dropA.scal rfl)
  ·cases ec
end
end DD
namespace TT
open PySem L2 DD
section
variable {S : Type} {α β γ δ : Type} {Γ : aA S}
end
section
variable {S : Type} {α : Type} {Γ Γ1 : aA S}
end
end TT
namespace PySem.W
open PySem.Calls PyProof.Rows PySem.Spec PySem.MeetsSeq3
section
end
end PySem.W
namespace L2
open PySem PySem.Spec PySem.Calls PyProof.Rows PySem.W
section
variable {X : Cx} {aa : List (Addr × Obj)} {σ : St} {H : Hp} {s : Shared} {h' : Heap}
end
end L2
namespace DD
open PySem PySem.Spec PyProof.Rows L2 PySem.W
section
variable {X : Cx} {e b : Expr} {c : DE} {sts : List Stmt}
end
end DD
namespace TT
open PySem L2 DD PySem.W
section
variable {S : Type} {α β ρ : Type} {Γ Γ1 Γ2 : aA S} {E : Ex S ρ}
end
end TT
namespace TT
open PySem L2 DD
section
variable {S : Type} {α β : Type} {Γ Γ1 Γ2 : aA S}
end
end TT
namespace DD
open PySem PySem.Spec PyProof.Rows L2
section
variable {X : Cx} {s : DS} {pos : Pos} {W' : List Nat} {body : List Stmt}
end
end DD
namespace TT
open PySem L2 DD
section
variable {S : Type} {α β ρ : Type} {Γ Γb : aA S} {E : Ex S ρ}
end
end TT
namespace PySem
open Sem (wp)
section
variable {prog : Program} {w : World} {A : Around} {E : Value -> Shared -> Prop} {s : Shared}
end
section
variable {prog : Program} {w : World} {A : Around} {E : Value -> Shared -> Prop} {s : Shared}
end
end PySem
namespace L2
open PySem PySem.Spec PyProof.Rows
end L2
namespace DD
open PySem PySem.Spec PyProof.Rows L2
section
variable {X : Cx} {a b e : Expr} {c c' : DE} {p p1 pos1 : Pos} {elts : List Expr} {x1 : Nat} {tpos pos : Pos}
end
end DD
namespace TT
open PySem L2 DD PySem.W
section
variable {S : Type} {α β : Type} {Γ Γ1 Γ2 : aA S} {c c' : DE}
noncomputable def l4 (p : α × α × α × α) : List α := [p.1, p.2.1, p.2.2.1, p.2.2.2]
noncomputable def o4 (xs : List α) : Option (α × α × α × α) := match xs with
 | [a, b, c, d] => some (a, b, c, d)
 | _ => none
end
section
variable {α β γ δ α' β' γ' δ' : Type}
end
end TT
namespace L2
open PySem PySem.Spec PyProof.Rows
noncomputable def AJ : V -> List V -> Hp -> VK -> Prop := fun x vs H Q => ∃ a b, x = .str a /\ vs = [.str b] /\ Q (.bl (Txt.startswith a b)) H
noncomputable def B1 : V -> List V -> Hp -> VK -> Prop := fun x vs H Q => ∃ a b, x = .str a /\ vs = [.str b] /\ (b.length == 0) = false /\ a.length <= sizeLine /\ (Txt.split a b).length <= sizeLine /\ ∀ p, H p = none -> Q (.ref p) (ay H p (.lst ((Txt.split a b).map V.str)))
noncomputable def DU (K : PySem.W.Frag) : V -> List V -> Hp -> VK -> Prop := fun x vs H Q => ∃ a l ys, x = .str a /\ vs = [.ref l] /\ cZ K H l (ys.map V.str) /\ (ys.map (·.length)).sum + ys.length * a.length <= 16777216 /\ Q (.str (Txt.join a ys)) H
section
variable {X : Cx}
theorem xB : uc X "str.startswith" AJ := by
 intro aa s σ H x vs v us Q I rx rv h;obtain ⟨a, b, rfl, rfl, q⟩ := h;obtain ⟨t, rfl⟩ := (show ∃ t, v = Value.str a t from rx);obtain ⟨u, rfl, ru⟩ := rv.one;obtain ⟨t', rfl⟩ := (show ∃ t, u = Value.str b t from ru);exact SC.startswith ⟨.bl _, H, I, rfl, q⟩
theorem wC : ∀ (xs : List Str) (k : Nat), Vals (xs.map V.str) (strsFrom k xs) := by
 intro xs
 induction xs with
 | nil => intro k; exact .nil
 | cons x xs ih => intro k; exact .cons ⟨_, rfl⟩ (ih (k + 1))
theorem y4 : uc X "str.split" B1 := by
 intro aa s σ H x vs v us Q I rx rv h;obtain ⟨a, b, rfl, rfl, hb, ha, hn, q⟩ := h;obtain ⟨t, rfl⟩ := (show ∃ t, v = Value.str a t from rx);obtain ⟨u, rfl, ru⟩ := rv.one;obtain ⟨t', rfl⟩ := (show ∃ t, u = Value.str b t from ru);have one : Txt.split a b = [a] -> PySem.wants (EP X aa σ Q) X.xe (.ok (.ret (.ref s.heap.objs.size))) { s with heap := s.heap.push { cls := .type "list", data := .seq [Value.str a t].toArray } } := fun e => by
  refine ⟨.ref s.heap.objs.size, _, I.laid (o := .lst [.str a]) (t' := s.toks) (fun b o e => Heap.get?_push_of_some _ e) (Nat.le_refl _) ⟨by show 1 <= sizeLine; decide, [Value.str a t], _, .cons ⟨_, rfl⟩ .nil, Heap.get?_push_size _ rfl⟩, rfl, ?_⟩
  have := q _ I.fresh
  rw [e] at this;exact this
 cases h1 : (decide (a.length < b.length) || decide (Builtin.Str.strKind a < Builtin.Str.strKind b))
 ·cases hf : (Builtin.Str.occurrences a b 0 a.length (a.length + 1)).isEmpty
  ·have e : Txt.split a b = Builtin.Str.partsBetween a (Builtin.Str.occurrences a b 0 a.length (a.length + 1)) b.length := by unfold Txt.split; rw [h1, hf]; rfl
   rw [e] at hn q;refine call_meets F.slot_str_split (typeIs_str _ _ _) F.entry_str_split (F.args_str_split_2 _ _) (meets_str_split_sep a b t t' h1 hb hf ha hn) ?_;exact ⟨.ref s.heap.objs.size, _, I.laid (o := .lst ((Builtin.Str.partsBetween a (Builtin.Str.occurrences a b 0 a.length (a.length + 1)) b.length).map V.str)) (fun b o e => Heap.get?_push_of_some _ e) (Nat.le_refl _) ⟨by rw [List.length_map]; exact hn, _, _, wC _ _, Heap.get?_push_size _ rfl⟩, rfl, q _ I.fresh⟩
  ·exact call_meets F.slot_str_split (typeIs_str _ _ _) F.entry_str_split (F.args_str_split_2 _ _) (meets_str_split_not_found a b t t' h1 hb hf) (one (by unfold Txt.split; rw [h1, hf]; rfl))
 ·exact call_meets F.slot_str_split (typeIs_str _ _ _) F.entry_str_split (F.args_str_split_2 _ _) (meets_str_split_cannot_occur a b t t' h1) (one (by unfold Txt.split; rw [h1]; rfl))
theorem AB : ∀ {ys : List Str} {its : List Value}, Vals (ys.map V.str) its -> ∃ l : List (Str × Tok), its = strValues l /\ l.map (·.1) = ys := by
 intro ys
 induction ys with
 | nil => intro its h; cases h; exact ⟨[], rfl, rfl⟩
 | cons y ys ih =>
  intro its h;cases h with
  | cons r rr =>
   obtain ⟨l, e1, e2⟩ := ih rr;obtain ⟨t, rfl⟩ := r;exact ⟨(y, t) :: l, by rw [e1]; rfl, by rw [<- e2]; rfl⟩
theorem Be : uc X "str.join" (DU X.K) := by
 intro aa s σ H x vs v us Q I rx rv h;obtain ⟨a, l, ys, rfl, rfl, sq, hs, q⟩ := h;obtain ⟨t, rfl⟩ := (show ∃ t, v = Value.str a t from rx);obtain ⟨u, rfl, ru⟩ := rv.one;cases ru;obtain ⟨its, r, p, hz⟩ := I.list sq;obtain ⟨l', e1, e2⟩ := AB r;subst e1;exact SC.join p.isList e2 (joinOk_of hs) fun t' k => ⟨.str _, H, I.tok k, ⟨_, rfl⟩, q⟩
end
end L2
namespace DD
open PySem PySem.Spec PyProof.Rows L2
noncomputable def iM : List D -> Option (List Str)
 | [] => some []
 | .str x :: xs => (iM xs).map fun l => x :: l
 | _ :: _ => none
noncomputable def hG (c c' : DE) : DE := fun σ => (c σ).bind fun p => (c' p.2).bind fun q => match p.1, q.1 with
 | .str a, .str b => some (.bl (Txt.startswith a b), q.2)
 | _, _ => none
noncomputable def g6 (a b : Str) : Bool := !(b.length == 0) && (decide (a.length <= sizeLine) && decide ((Txt.split a b).length <= sizeLine))
noncomputable def jz (c c' : DE) : DE := fun σ => (c σ).bind fun p => (c' p.2).bind fun q => match p.1, q.1 with
 | .str a, .str b => if g6 a b = true then some (.lst true ((Txt.split a b).map D.str), q.2) else none
 | _, _ => none
noncomputable def oa (a : Str) (ys : List Str) : Bool := decide ((ys.map (·.length)).sum + ys.length * a.length <= 16777216)
noncomputable def jL (c c' : DE) : DE := fun σ => (c σ).bind fun p => (c' p.2).bind fun q => match p.1, q.1 with
 | .str a, .lst _ xs => (iM xs).bind fun ys => if oa a ys = true then some (.str (Txt.join a ys), q.2) else none
 | _, _ => none
theorem wI {K : PySem.W.Frag} {F : Addr -> Prop} {H : Hp} : ∀ {xs : List D} {ys : List Str} {vs : List V} {L : List Addr}, iM xs = some ys -> OwL K F H xs vs L -> vs = ys.map V.str := by
 intro xs
 induction xs with
 | nil => intro ys vs L e o; cases e; simp only [OwL] at o; rw [o.1]; rfl
 | cons x xs ih =>
  intro ys vs L e o;simp only [OwL] at o;obtain ⟨v, ws, L1, L2, rfl, o1, o2, _⟩ := o;cases x with
  | str z =>
   simp only [iM] at e;rcases h : iM xs with _ | l
   ·rw [h] at e; cases e
   ·rw [h] at e; cases e
    simp only [Ow] at o1;rw [o1.1, ih h o2]; rfl
  | _ => simp [iM] at e
theorem A9 {K : PySem.W.Frag} {F : Addr -> Prop} {H : Hp} : ∀ xs : List Str, OwL K F H (xs.map D.str) (xs.map V.str) [] := by
 intro xs
 induction xs with
 | nil => simp only [List.map_nil, OwL]; exact ⟨trivial, trivial⟩
 | cons x xs ih =>
  simp only [List.map_cons, OwL, Ow];exact ⟨_, _, [], [], rfl, ⟨rfl, rfl⟩, ih, rfl⟩
section
variable {X : Cx} {o e : Expr} {c c' : DE} {apos cpos : Pos}
theorem ls (ho : QE X o c) (ha : QE X e c') (hbase : autoParam (attributeBase o "startswith" X.env (eval o X.env) = eval o X.env) au._auto_1)
  (hfew : autoParam (((backTo cpos (starEach [e] X.env)).all (fun x => !x.1) && (backToKw cpos (keywordEach [] X.env)).all (fun x => x.1.isSome) && decide (([e] : List Expr).length + ([] : List Keyword).length + (if ([] : List Keyword).isEmpty then 0 else 1) < 30)) = true) au._auto_1)
  (hline : autoParam ((apos.endLine == cpos.line) = true) au._auto_1) (hst : autoParam (starEach [e] X.env = (false, eval e X.env) :: starEach [] X.env) au._auto_1) : QE X (.Call (.Attribute o "startswith" apos) [e] [] cpos) (hG c c') :=
 aO (mF PySem.F.plainAttrs_str PySem.F.slot_str_startswith PySem.F.type_str_startswith xB ho (cE ha dQ hst) hbase hfew hline hst rfl) fun σ H Q hq0 => by
  obtain ⟨F, R, σD, d, σD', r, ec, k⟩ := hq0;unfold hG at ec;rcases h1 : c σD with _ | ⟨x, σ1⟩
  ·rw [h1] at ec; cases ec
  ·rw [h1] at ec; simp only [bind_some] at ec
   rcases h2 : c' σ1 with _ | ⟨y, σ2⟩
   ·rw [h2] at ec; cases ec
   ·rw [h2] at ec; simp only [bind_some] at ec
    split at ec
    ·rename_i a b
     cases ec;refine ⟨F, R, σD, _, σ1, r, h1, fun F1 H1 v x1 r1 => ?_⟩;have bv := (r1.bor (d := .str a) (v := v) (by simp)).str;subst bv;refine ⟨rfl, F1, _, σ1, _, _, r1, h2, fun F2 H2 u x2 r2 => ?_⟩;have bu := (r2.bor (d := .str b) (v := u) (by simp)).str;subst bu;exact ⟨a, b, rfl, rfl, k F2 H2 _ (x1.trans x2) ((r2.pop).pop.scal rfl)⟩
    ·cases ec
theorem nA (ho : QE X o c) (ha : QE X e c') (hbase : autoParam (attributeBase o "split" X.env (eval o X.env) = eval o X.env) au._auto_1)
  (hfew : autoParam (((backTo cpos (starEach [e] X.env)).all (fun x => !x.1) && (backToKw cpos (keywordEach [] X.env)).all (fun x => x.1.isSome) && decide (([e] : List Expr).length + ([] : List Keyword).length + (if ([] : List Keyword).isEmpty then 0 else 1) < 30)) = true) au._auto_1)
  (hline : autoParam ((apos.endLine == cpos.line) = true) au._auto_1) (hst : autoParam (starEach [e] X.env = (false, eval e X.env) :: starEach [] X.env) au._auto_1) : QE X (.Call (.Attribute o "split" apos) [e] [] cpos) (jz c c') :=
 aO (mF PySem.F.plainAttrs_str PySem.F.slot_str_split PySem.F.type_str_split y4 ho (cE ha dQ hst) hbase hfew hline hst rfl) fun σ H Q hq0 => by
  obtain ⟨F, R, σD, d, σD', r, ec, k⟩ := hq0;unfold jz at ec;rcases h1 : c σD with _ | ⟨x, σ1⟩
  ·rw [h1] at ec; cases ec
  ·rw [h1] at ec; simp only [bind_some] at ec
   rcases h2 : c' σ1 with _ | ⟨y, σ2⟩
   ·rw [h2] at ec; cases ec
   ·rw [h2] at ec; simp only [bind_some] at ec
    split at ec
    ·rename_i a b
     split at ec
     ·rename_i hok
      cases ec;unfold g6 at hok;simp only [Bool.and_eq_true, Bool.not_eq_true', decide_eq_true_eq] at hok;refine ⟨F, R, σD, _, σ1, r, h1, fun F1 H1 v x1 r1 => ?_⟩;have bv := (r1.bor (d := .str a) (v := v) (by simp)).str;subst bv;refine ⟨rfl, F1, _, σ1, _, _, r1, h2, fun F2 H2 u x2 r2 => ?_⟩;have bu := (r2.bor (d := .str b) (v := u) (by simp)).str;subst bu;refine ⟨a, b, rfl, rfl, hok.1, hok.2.1, hok.2.2, fun p hp => ?_⟩;have ol := A9 (K := X.K) (F := F2) (H := H2) (Txt.split a b);obtain ⟨r3, x3⟩ := (Rel.pushL ol r2.pop.pop).layL ol.length.symm hp;exact k F2 _ _ ((x1.trans x2).trans x3) r3
     ·cases ec
    ·cases ec
theorem mC (ho : QE X o c) (ha : QE X e c') (hbase : autoParam (attributeBase o "join" X.env (eval o X.env) = eval o X.env) au._auto_1)
  (hfew : autoParam (((backTo cpos (starEach [e] X.env)).all (fun x => !x.1) && (backToKw cpos (keywordEach [] X.env)).all (fun x => x.1.isSome) && decide (([e] : List Expr).length + ([] : List Keyword).length + (if ([] : List Keyword).isEmpty then 0 else 1) < 30)) = true) au._auto_1)
  (hline : autoParam ((apos.endLine == cpos.line) = true) au._auto_1) (hst : autoParam (starEach [e] X.env = (false, eval e X.env) :: starEach [] X.env) au._auto_1) : QE X (.Call (.Attribute o "join" apos) [e] [] cpos) (jL c c') :=
 aO (mF PySem.F.plainAttrs_str PySem.F.slot_str_join PySem.F.type_str_join Be ho (cE ha dQ hst) hbase hfew hline hst rfl) fun σ H Q hq0 => by
  obtain ⟨F, R, σD, d, σD', r, ec, k⟩ := hq0;unfold jL at ec;rcases h1 : c σD with _ | ⟨x, σ1⟩
  ·rw [h1] at ec; cases ec
  ·rw [h1] at ec; simp only [bind_some] at ec
   rcases h2 : c' σ1 with _ | ⟨y, σ2⟩
   ·rw [h2] at ec; cases ec
   ·rw [h2] at ec; simp only [bind_some] at ec
    split at ec
    ·rename_i a own xs
     rcases h3 : iM xs with _ | ys
     ·rw [h3] at ec; cases ec
     ·rw [h3] at ec; simp only [bind_some] at ec
      split at ec
      ·rename_i hok
       cases ec;refine ⟨F, R, σD, _, σ1, r, h1, fun F1 H1 v x1 r1 => ?_⟩;have bv := (r1.bor (d := .str a) (v := v) (by simp)).str;subst bv;refine ⟨rfl, F1, _, σ1, _, _, r1, h2, fun F2 H2 u x2 r2 => ?_⟩;obtain ⟨l, vs, rfl, sq, L, ol⟩ := (r2.bor (d := .lst own xs) (v := u) (by simp)).lst;rw [wI h3 ol] at sq;exact ⟨a, l, ys, rfl, rfl, sq, of_decide_eq_true hok, k F2 H2 _ (x1.trans x2) ((r2.pop).pop.scal rfl)⟩
      ·cases ec
    ·cases ec
end
end DD
namespace TT
open PySem L2 DD PySem.W
section
variable {S : Type} {Γ Γ1 Γ2 : aA S} {c c' : DE}
theorem lF {f g : S -> Option (Str × S)} (h : JE Γ c f rS Γ1) (h' : JE Γ1 c' g rS Γ2) : JE Γ (hG c c') (fun s => (f s).bind fun p => (g p.2).map fun q => (Txt.startswith p.1 q.1, q.2)) rB Γ2 := fun s σ v s' hs e => by
 obtain ⟨⟨a, s1⟩, e1, e⟩ := bd e;obtain ⟨⟨b, s2⟩, e2, e⟩ := mp e;cases e;obtain ⟨d, σ1, h1, h2, h3⟩ := h s σ a s1 hs e1;obtain ⟨d', σ2, h4, h5, h6⟩ := h' s1 σ1 b s2 h3 e2;cases h2; cases h5;exact ⟨_, σ2, by simp only [hG, h1, h4, bind_some], rfl, h6⟩
theorem mf : ∀ xs : List Str, All2 rS xs (xs.map D.str) := by
 intro xs
 induction xs with
 | nil => exact .nil
 | cons x xs ih => exact .cons rfl ih
theorem wJ : ∀ {xs : List Str} {ds : List D}, All2 rS xs ds -> iM ds = some xs := by
 intro xs
 induction xs with
 | nil => intro ds h; cases h; rfl
 | cons x xs ih =>
  intro ds h;cases h with
  | cons r rr => cases r; simp only [iM, ih rr, map_some]
theorem nI {f g : S -> Option (Str × S)} (h : JE Γ c f rS Γ1) (h' : JE Γ1 c' g rS Γ2) : JE Γ (jz c c') (fun s => (f s).bind fun p => (g p.2).bind fun q => if g6 p.1 q.1 = true then some (Txt.split p.1 q.1, q.2) else none) (rL rS) Γ2 := fun s σ v s' hs e => by
 obtain ⟨⟨a, s1⟩, e1, e⟩ := bd e;obtain ⟨⟨b, s2⟩, e2, e⟩ := bd e;dsimp only at e;split at e
 ·rename_i hok
  cases e;obtain ⟨d, σ1, h1, h2, h3⟩ := h s σ a s1 hs e1;obtain ⟨d', σ2, h4, h5, h6⟩ := h' s1 σ1 b _ h3 e2;cases h2; cases h5;exact ⟨_, σ2, by simp only [jz, h1, h4, bind_some, hok, if_true], ⟨_, rfl, mf _⟩, h6⟩
 ·cases e
theorem mJ {rl : Rl (List Str)} [l : Ls rl rS] {f : S -> Option (Str × S)} {g : S -> Option (List Str × S)} (h : JE Γ c f rS Γ1) (h' : JE Γ1 c' g rl Γ2) : JE Γ (jL c c') (fun s => (f s).bind fun p => (g p.2).bind fun q => if oa p.1 q.1 = true then some (Txt.join p.1 q.1, q.2) else none) rS Γ2 := fun s σ v s' hs e => by
 obtain ⟨⟨a, s1⟩, e1, e⟩ := bd e;obtain ⟨⟨b, s2⟩, e2, e⟩ := bd e;dsimp only at e;split at e
 ·rename_i hok
  cases e;obtain ⟨d, σ1, h1, h2, h3⟩ := h s σ a s1 hs e1;obtain ⟨d', σ2, h4, h5, h6⟩ := h' s1 σ1 b _ h3 e2;cases h2;obtain ⟨o, ds, rfl, hh⟩ := l.l b d' h5;exact ⟨_, σ2, by simp only [jL, h1, h4, bind_some, wJ hh, hok, if_true], rfl, h6⟩
 ·cases e
end
end TT
namespace L2
open PySem PySem.Spec PyProof.Rows
section
variable {X : Cx}
theorem ya : CallR X (.type "int") (fun xs H Q => ∃ x n, xs = [.str x] /\ PySem.intText? x = some n /\ x.length <= 640 /\ Q (.int n) H) := by
 intro aa s σ H xs us Q I r h;obtain ⟨x, n, rfl, hn, hl, q⟩ := h;obtain ⟨u, rfl, t, rfl⟩ := iL r;exact PySem.W.KIN.call_text hn hl ⟨.int n, H, I.tok _, ⟨_, rfl⟩, q⟩
theorem x9 : CallR X (.type "str") (fun xs H Q => ∃ i, xs = [.int i] /\ i.natAbs.log2 < 1920 /\ Q (.str (Str.ofString (toString i))) H) := by
 intro aa s σ H xs us Q I r h;obtain ⟨i, rfl, hl, q⟩ := h;obtain ⟨u, rfl, t, rfl⟩ := iL r;exact PySem.P.str_of_int hl ⟨.str _, H, I.tok _, ⟨_, rfl⟩, q⟩
end
end L2
namespace DD
open PySem PySem.Spec PyProof.Rows L2
noncomputable def mN : List D -> Option D
 | [.str x] => (PySem.intText? x).bind fun n => if decide (x.length <= 640) = true then some (.int n) else none
 | _ => none
noncomputable def kD : List D -> Option D
 | [.int i] => if decide (i.natAbs.log2 < 1920) = true then some (.str (Str.ofString (toString i))) else none
 | _ => none
noncomputable def eY : D -> D -> Option D
 | .str a, .str b => if decide (a.length + b.length <= sizeLine) = true then some (.str (a ++ b)) else none
 | _, _ => none
noncomputable def tG : D -> D -> Option D
 | .str a, .str b => some (.bl (!(Builtin.Str.occurrences b a 0 b.length 1).isEmpty))
 | _, _ => none
section
variable {X : Cx}
theorem oi {ds : List D} {d : D} (h : mN ds = some d) : ∃ x n, ds = [.str x] /\ PySem.intText? x = some n /\ x.length <= 640 /\ d = .int n := by
 unfold mN at h;split at h
 ·rename_i x
  rcases h2 : PySem.intText? x with _ | n
  ·rw [h2] at h; cases h
  ·rw [h2] at h; simp only [bind_some] at h
   split at h
   ·rename_i hs
    cases h;exact ⟨x, n, rfl, h2, of_decide_eq_true hs, rfl⟩
   ·cases h
 ·cases h
theorem Dh : fN X (.type "int") mN := by
 refine ⟨iB ya fun vs H Q hq => ?_, fun ds d h => ?_⟩
 ·obtain ⟨F, ds, d, w, b, eg, hw, q⟩ := hq
  obtain ⟨x, n, rfl, h1, h2, rfl⟩ := oi eg;cases hw;obtain ⟨v, rfl, bv⟩ := b.one;exact ⟨x, n, by rw [bv.str], h1, h2, q⟩
 ·obtain ⟨x, n, rfl, _, _, rfl⟩ := oi h
  exact ⟨_, rfl⟩
theorem yc : fN X (.type "str") kD := by
 refine ⟨iB x9 fun vs H Q hq => ?_, fun ds d h => ?_⟩
 ·obtain ⟨F, ds, d, w, b, eg, hw, q⟩ := hq
  unfold kD at eg;split at eg
  ·split at eg
   ·rename_i hs
    cases eg; cases hw;obtain ⟨v, rfl, bv⟩ := b.one;exact ⟨_, by rw [bv.int], of_decide_eq_true hs, q⟩
   ·cases eg
  ·cases eg
 ·unfold kD at h
  split at h
  ·split at h
   ·cases h; exact ⟨_, rfl⟩
   ·cases h
  ·cases h
theorem gL : dG X (binaryOp .Add) eY := by
 refine ⟨kz vY fun x y H Q hq => ?_, fun x y d h => ?_⟩
 ·obtain ⟨F, dx, dy, d, w, b1, b2, eg, hw, q⟩ := hq
  unfold eY at eg;split at eg
  ·split at eg
   ·rename_i hs
    cases eg; cases hw;exact ⟨_, _, b1.sc rfl, b2.sc rfl, of_decide_eq_true hs, q⟩
   ·cases eg
  ·cases eg
 ·unfold eY at h
  split at h
  ·split at h
   ·cases h; exact ⟨_, rfl⟩
   ·cases h
  ·cases h
theorem Em : dG X (compareOp .In) tG := by
 refine ⟨kz xq fun x y H Q hq => ?_, fun x y d h => ?_⟩
 ·obtain ⟨F, dx, dy, d, w, b1, b2, eg, hw, q⟩ := hq
  unfold tG at eg;split at eg
  ·cases eg; cases hw
   exact ⟨_, _, b1.sc rfl, b2.sc rfl, q⟩
  ·cases eg
 ·unfold tG at h
  split at h
  ·cases h; exact ⟨_, rfl⟩
  ·cases h
end
end DD
namespace TT
open PySem L2 DD PySem.W
theorem Bs : nh mN (fun x : Str => (PySem.intText? x).bind fun n => if decide (x.length <= 640) = true then some n else none) rS rI := fun a c x e h => by
 cases h;dsimp only at e;rcases h2 : PySem.intText? a with _ | n
 ·rw [h2] at e; cases e
 ·rw [h2] at e; simp only [bind_some] at e
  split at e
  ·rename_i hs
   cases e;exact ⟨_, by simp only [mN, h2, bind_some, hs, if_true], rfl⟩
  ·cases e
theorem u5 : nh kD (fun i : Int => if decide (i.natAbs.log2 < 1920) = true then some (Str.ofString (toString i)) else none) rI rS := fun a c x e h => by
 cases h;dsimp only at e;split at e
 ·rename_i hs
  cases e;exact ⟨_, by simp only [kD, hs, if_true], rfl⟩
 ·cases e
theorem fI : JO eY (fun a b : Str => if decide (a.length + b.length <= sizeLine) = true then some (a ++ b) else none) rS rS rS := fun a b c x y e h1 h2 => by
 cases h1; cases h2;dsimp only at e;split at e
 ·rename_i hs
  cases e;exact ⟨_, by simp only [eY, hs, if_true], rfl⟩
 ·cases e
theorem CQ : JO tG (fun a b : Str => some (!(Builtin.Str.occurrences b a 0 b.length 1).isEmpty)) rS rS rB := fun a b c x y e h1 h2 => by
 cases h1; cases h2; cases e;exact ⟨_, rfl, rfl⟩
end TT
namespace L2
open PySem PySem.Spec PyProof.Rows
section
variable {X : Cx}
theorem BU : Dp X (fun x lo hi H Q => ∃ a, x = .str a /\ a.length <= sizeLine /\ Q (.str (Txt.slice a lo hi)) H) := by
 intro aa s σ H x v vl vu lo hi sl Q I rx hs pl pu h;obtain ⟨a, rfl, hz, q⟩ := h;obtain ⟨t, rfl⟩ := rx;have fin : ∀ t' k, EP X aa σ Q (.str (Txt.slice a lo hi) t') { s with toks := k } := fun t' k => ⟨.str _, H, I.tok k, ⟨_, rfl⟩, q⟩
 refine ⟨"str", _, F.slot_str_getitem.lookup, typeIs_str _ _ _, ?_⟩;have part : ∀ {w : Value} {o : Option Int}, IsPart w o -> ∃ l : Option (Int × Tok), w = partValue l /\ o = l.map (·.1) := fun h => by
  cases h
  ·exact ⟨none, rfl, rfl⟩
  ·exact ⟨some (_, _), rfl, rfl⟩
 obtain ⟨l, rfl, rfl⟩ := part pl;obtain ⟨u, rfl, rfl⟩ := part pu;exact wpAny_getItem_str_slice (l := l) (u := u) (st := none) hs rfl (post_val_or_str ⟨Nat.le_trans (Txt.slice_le a _ _) hz, fin⟩)
end
end L2
namespace DD
open PySem PySem.Spec PyProof.Rows L2
noncomputable def kR (c : DE) (pl ph : Option DP) : DE := fun σ => (c σ).bind fun p => match p.1 with
 | .str a => if decide (a.length <= sizeLine) = true then (kj pl p.2).bind fun l => (kj ph p.2).map fun h => (.str (Txt.slice a l h), p.2) else none
 | _ => none
section
variable {X : Cx} {e : Expr} {lo hi : Option Expr} {pl ph : Option DP} {c : DE} {pos p2 : Pos}
theorem lw (he : QE X e c) (hl : QO X lo pl) (hh : QO X hi ph) : QE X (.Subscript e (.Slice lo hi none p2) pos) (kR c pl ph) := aO (sw BU he hl hh) fun σ H Q hq0 => by
 obtain ⟨F, R, σD, d, σD', r, ec, k⟩ := hq0;unfold kR at ec;rcases h1 : c σD with _ | ⟨t, σ1⟩
 ·rw [h1] at ec; cases ec
 ·rw [h1] at ec; simp only [bind_some] at ec
  refine ⟨F, R, σD, t, σ1, r, h1, fun F1 H1 v x1 r1 => ?_⟩;split at ec
  ·rename_i a
   split at ec
   ·rename_i hf
    rcases h2 : kj pl σ1 with _ | l
    ·rw [h2] at ec; cases ec
    ·rw [h2] at ec; simp only [bind_some] at ec
     rcases h3 : kj ph σ1 with _ | h
     ·rw [h3] at ec; cases ec
     ·rw [h3] at ec; cases ec
      refine ⟨F1, _, _, l, r1, h2, fun F2 H2 g2 => ?_⟩;refine ⟨F2, _, _, h, r1.grow g2, h3, fun F3 H3 g3 => ?_⟩;have r3 := (r1.grow g2).grow g3;have bv := (r3.bor (d := .str a) (v := v) (by simp)).str;exact ⟨a, bv, of_decide_eq_true hf, k F3 H3 _ (x1.trans (g2.x.trans g3.x)) (r3.pop.scal rfl)⟩
   ·cases ec
  ·cases ec
end
end DD
namespace TT
open PySem L2 DD PySem.W
section
variable {S : Type} {Γ Γ1 : aA S} {c : DE}
theorem lG {pl ph : Option DP} {f : S -> Option (Str × S)} {fl fh : S -> Option (Option Int)} (h : JE Γ c f rS Γ1) (hl : vv Γ1 pl fl) (hh : vv Γ1 ph fh) :
  JE Γ (kR c pl ph) (fun s => (f s).bind fun p => if decide (p.1.length <= sizeLine) = true then (fl p.2).bind fun l => (fh p.2).map fun u => (Txt.slice p.1 l u, p.2) else none) rS Γ1 := fun s σ v s' hs e => by
 obtain ⟨⟨a, s1⟩, e1, e⟩ := bd e;dsimp only at e;split at e
 ·rename_i hz
  obtain ⟨l, e2, e⟩ := bd e;obtain ⟨u, e3, e⟩ := mp e;cases e;obtain ⟨d, σ1, h1, h2, h3⟩ := h s σ a _ hs e1;cases h2;exact ⟨_, σ1, by simp only [kR, h1, bind_some, hz, if_true, hl _ _ _ h3 e2, hh _ _ _ h3 e3, map_some], rfl, h3⟩
 ·cases e
end
end TT
namespace L2
open PySem PySem.Spec PyProof.Rows
noncomputable def Dv (x : Str) : It := ⟨fun i _ => ∃ c, x.cps[i]? = some c, fun i H v H' => H' = H /\ ∃ c, x.cps[i]? = some c /\ v = .str ⟨#[c]⟩, fun i _ => x.cps[i]? = none⟩
theorem yy {P : Program} {w : World} {K : PySem.W.Frag} {tg : Expr} (x : Str) (t : Tok) (it : Addr) : mi P w K tg (Dv x) [it] it (fun i h => h.IsStrIter it "str_ascii_iterator" x t i) where
 mem := by simp
 obj := fun i h st b hb => by
  have e : b = it := by simpa using hb
  subst e;obtain ⟨o, e, c, d⟩ := st;exact ⟨o, e, fun v z => by rw [d] at z; cases z⟩
 keep := fun i h h' st k => by
  obtain ⟨o, e, r⟩ := st;exact ⟨o, k it (by simp) o e, r⟩
 item := by
  intro X hP hw hK hc i aa s σ H E I hf st hg;subst hP hw hK;obtain ⟨c, hx⟩ := hg;obtain ⟨f0, f1, f2, f3, f4, f5⟩ := hf it (by simp);refine wpAny_pyNext_ascii_item st hx fun h' st' sb => ?_
  have I1 : Inv X aa σ H { s with heap := h', toks := s.toks + 1 } := I.turned (fun b o hb e => (sb.2 b hb).trans e) f0 f1 f3 f4 f5;obtain ⟨o, e, cl, d⟩ := id st';exact ⟨_, rfl, wj (s := { s with heap := h', toks := s.toks + 1 }) e cl d dC ⟨.str ⟨#[c]⟩, H, I1, ⟨_, rfl⟩, ⟨rfl, c, hx, rfl⟩, st', fun b hb => (hf b hb).1⟩⟩
 done := by
  intro X hP hw hK hc i aa s σ H E I hf st hg;subst hP hw hK;obtain ⟨f0, f1, f2, f3, f4, f5⟩ := hf it (by simp);exact wpAny_pyNext_ascii_end (I.ok.hd hc) st hg fun h' eb => ⟨rfl, I.turned (t' := s.toks) (fun b o hb e => eb b o hb e) f0 f1 f3 f4 f5⟩
 self := fun _ _ _ _ _ st h => wpAny_pyIter_striter_ascii st h
section
variable {X : Cx} {tg : Expr}
noncomputable def FE (tl : TE) : TI := fun σ H R => tl σ H fun v H1 => ∃ x : Str, v = .str x /\ x.cps.all (· < 128) = true /\ R (Dv x) H1
theorem Cn {l : Expr} {tl : TE} (hl : PE X l tl) : PI X tg l (FE tl) := by
 intro aa s σ H R I h;refine bq (hl aa s σ H _ I h) fun v s1 hq0 => ?_
 obtain ⟨y, H1, I1, r1, x, e, ha, q⟩ := hq0;subst e;obtain ⟨t, rfl⟩ := (show ∃ t, v = Value.str x t from r1);refine wpAny_pyIter_ascii ha ?_;refine ⟨s1.heap.objs.size, [s1.heap.objs.size], _, _, H1, rfl, I1.kept (t' := s1.toks) fun b o e => Heap.get?_push_of_some _ e, yy x t _, ⟨_, Heap.get?_push_size _ rfl, rfl, rfl⟩, fun b hb => ?_, q⟩;have e : b = s1.heap.objs.size := by simpa using hb
 subst e;exact I1.fpOk (Nat.le_refl _) (I1.hok.fresh (Nat.le_refl _))
end
end L2
namespace DD
open PySem PySem.Spec PyProof.Rows L2
noncomputable def signs (x : Str) : List Str := x.cps.toList.map fun c => ⟨#[c]⟩
noncomputable def oo (c : DE) : DI := fun σ => (c σ).bind fun p => match p.1 with
 | .str x => if x.cps.all (· < 128) = true then some ((signs x).map D.str, p.2) else none
 | _ => none
theorem Bu {K : PySem.W.Frag} {F : Addr -> Prop} {H : Hp} {x : Str} : ni K (Dv x) ((signs x).map D.str) F H where
 item := fun i d F1 H1 _ _ e => by
  unfold signs at e;rw [List.map_map, List.getElem?_map, Array.getElem?_toList] at e;rcases h : x.cps[i]? with _ | c
  ·rw [h] at e; cases e
  ·rw [h] at e; cases e
   refine ⟨⟨c, h⟩, fun v H2 hq => ?_⟩;obtain ⟨rfl, c', h', rfl⟩ := hq;rw [h] at h'; cases h';exact ⟨F1, Grow.refl, Ow.of_sc rfl⟩
 done := fun F1 H1 _ => by
  show x.cps[((signs x).map D.str).length]? = none;unfold signs;simp
section
variable {X : Cx} {tg e : Expr} {c : DE}
theorem Ca (he : QE X e c) : QI X tg e (oo c) := iA (Cn he) fun σ H R hq0 => by
 obtain ⟨F, Ro, σD, xs, σD', r, ec, k⟩ := hq0;unfold oo at ec;rcases h : c σD with _ | ⟨d, σ1⟩
 ·rw [h] at ec; cases ec
 ·rw [h] at ec; simp only [bind_some] at ec
  refine ⟨F, Ro, σD, d, σ1, r, h, fun F1 H1 v x1 r1 => ?_⟩;split at ec
  ·rename_i x
   split at ec
   ·rename_i ha
    cases ec;have bv := (r1.bor (d := .str x) (v := v) (by simp)).str;exact ⟨x, bv, ha, k F1 H1 _ x1 r1.pop Bu⟩
   ·cases ec
  ·cases ec
end
end DD
namespace TT
open PySem L2 DD PySem.W
section
variable {S : Type} {Γ Γ1 : aA S} {c : DE}
theorem CT {f : S -> Option (Str × S)} (h : JE Γ c f rS Γ1) : JI Γ (oo c) (fun s => (f s).bind fun p => if p.1.cps.all (· < 128) = true then some (signs p.1, p.2) else none) rS Γ1 := fun s σ v s' hs e => by
 obtain ⟨⟨a, s1⟩, e1, e⟩ := bd e;dsimp only at e;split at e
 ·rename_i ha
  cases e;obtain ⟨d, σ1, h1, h2, h3⟩ := h s σ a _ hs e1;cases h2;exact ⟨_, σ1, by simp only [oo, h1, bind_some, ha, if_true], mf _, h3⟩
 ·cases e
end
end TT
namespace L2
open PySem PySem.Spec PyProof.Rows
noncomputable abbrev Ag := St -> Hp -> Str -> (Str -> Hp -> Prop) -> Prop
section
variable {X : Cx} {e e1 e2 : Expr} {es : List Expr} {te : TE} {t : Ag} {pos : Pos}
noncomputable def FU (te : TE) : TE := fun σ H Q => te σ H fun v H1 => (∃ a, v = .str a /\ a.length <= sizeLine /\ Q (.str a) H1) \/ (∃ n, v = .int n /\ n.natAbs.log2 < 1920 /\ Q (.str (Str.ofString (toString n))) H1)
theorem Ee (he : PE X e te) : PE X (.FormattedValue e (-1) none pos) (FU te) := by
 intro aa s σ H Q I h;refine FormattedValue_plain (bq (he aa s σ H _ I h) fun v s1 hq => ?_);obtain ⟨x, H1, I1, r1, q⟩ := hq;rcases q with ⟨a, rfl, hz, q⟩ | ⟨n, rfl, hl, q⟩
 ·obtain ⟨t, rfl⟩ := (show ∃ t, v = Value.str a t from r1)
  exact formatField_str (fun t' tk => ⟨.str a, H1, I1.tok tk, ⟨_, rfl⟩, q⟩) hz
 ·obtain ⟨t, rfl⟩ := (show ∃ t, v = Value.int n t from r1)
  exact formatField_int_small hl ⟨.str _, H1, I1.tok _, ⟨_, rfl⟩, q⟩
noncomputable def PF (X : Cx) (es : List Expr) (t : Ag) : Prop := ∀ (aa : List (Addr × Obj)) (s : Shared) (σ : St) (H : Hp) (acc : Str) (Q : VK), Inv X aa σ H s -> (t σ H acc fun out H' => Q (.str out) H') ->
 wpAny (model X.prog X.w) X.A (joinParts acc (evalEach es X.env)) (EP X aa σ Q) X.xe s
theorem Cq : PF X [] (fun _ H acc Q => acc.length <= sizeLine /\ Q acc H) := fun aa s σ H acc Q I h => joinParts_nil ⟨.str acc, H, I.tok _, ⟨_, rfl⟩, h.2⟩ h.1
theorem A7 (he : PE X e te) (hr : PF X es t) (hs : autoParam (evalEach (e :: es) X.env = eval e X.env :: evalEach es X.env) au._auto_1) : PF X (e :: es) (fun σ H acc Q => te σ H fun v H1 => ∃ y, v = .str y /\ (acc ++ y).length <= sizeLine /\ t σ H1 (acc ++ y) Q) := by
 intro aa s σ H acc Q I h;rw [hs];refine joinParts_cons (bq (he aa s σ H _ I h) fun v s1 hq => ?_);obtain ⟨x, H1, I1, r1, y, rfl, hz, q⟩ := hq;obtain ⟨t, rfl⟩ := (show ∃ t, v = Value.str y t from r1);exact ⟨hz, hr aa s1 σ H1 _ Q I1 q⟩
theorem xp (h : PF X (e1 :: e2 :: es) t) : PE X (.JoinedStr (e1 :: e2 :: es) pos) (fun σ H Q => t σ H Str.empty fun out H' => Q (.str out) H') := fun aa s σ H Q I q => JoinedStr_many (h aa s σ H Str.empty Q I q)
end
end L2
namespace DD
open PySem PySem.Spec PyProof.Rows L2
noncomputable def lU (c : DE) : DE := fun σ => (c σ).bind fun p => match p.1 with
 | .str a => if decide (a.length <= sizeLine) = true then some (.str a, p.2) else none
 | .int n => if decide (n.natAbs.log2 < 1920) = true then some (.str (Str.ofString (toString n)), p.2) else none
 | _ => none
noncomputable def oz : List DE -> Str -> ar -> Option (Str × ar)
 | [], acc, σ => if decide (acc.length <= sizeLine) = true then some (acc, σ) else none
 | c :: cs, acc, σ => (c σ).bind fun p => match p.1 with
  | .str y => if decide ((acc ++ y).length <= sizeLine) = true then oz cs (acc ++ y) p.2 else none
  | _ => none
noncomputable def vg (cs : List DE) : DE := fun σ => (oz cs Str.empty σ).map fun p => (.str p.1, p.2)
noncomputable def rF (K : PySem.W.Frag) (cs : List DE) : Ag := fun σ H acc Q => ∃ F R σD out σD', Rel K F H σD σ R /\ oz cs acc σD = some (out, σD') /\ ∀ F' H', Ext F H F' H' -> Rel K F' H' σD' σ R -> Q out H'
noncomputable def QF (X : Cx) (es : List Expr) (cs : List DE) : Prop := PF X es (rF X.K cs)
theorem yr {X : Cx} {es : List Expr} {t t' : Ag} (h : PF X es t) (k : ∀ σ H acc Q, t' σ H acc Q -> t σ H acc Q) : PF X es t' := fun aa s σ H acc Q I q => h aa s σ H acc Q I (k _ _ _ _ q)
section
variable {X : Cx} {e e1 e2 : Expr} {es : List Expr} {c : DE} {cs : List DE} {pos : Pos}
theorem nV (he : QE X e c) : QE X (.FormattedValue e (-1) none pos) (lU c) := aO (Ee he) fun σ H Q hq0 => by
 obtain ⟨F, R, σD, d, σD', r, ec, k⟩ := hq0;unfold lU at ec;rcases h1 : c σD with _ | ⟨t, σ1⟩
 ·rw [h1] at ec; cases ec
 ·rw [h1] at ec; simp only [bind_some] at ec
  refine ⟨F, R, σD, t, σ1, r, h1, fun F1 H1 v x1 r1 => ?_⟩;split at ec
  ·rename_i a
   split at ec
   ·rename_i hz
    cases ec;exact .inl ⟨a, (r1.bor (d := .str a) (v := v) (by simp)).str, of_decide_eq_true hz, k F1 H1 _ x1 (r1.pop.scal rfl)⟩
   ·cases ec
  ·rename_i n
   split at ec
   ·rename_i hz
    cases ec;exact .inr ⟨n, (r1.bor (d := .int n) (v := v) (by simp)).int, of_decide_eq_true hz, k F1 H1 _ x1 (r1.pop.scal rfl)⟩
   ·cases ec
  ·cases ec
theorem w5 : QF X [] [] := yr Cq fun σ H acc Q hq0 => by
 obtain ⟨F, R, σD, out, σD', r, ec, k⟩ := hq0;unfold oz at ec;split at ec
 ·rename_i hz
  cases ec;exact ⟨of_decide_eq_true hz, k F H Ext.refl r⟩
 ·cases ec
theorem fG (he : QE X e c) (hr : QF X es cs) (hs : autoParam (evalEach (e :: es) X.env = eval e X.env :: evalEach es X.env) au._auto_1) : QF X (e :: es) (c :: cs) := yr (A7 he hr hs) fun σ H acc Q hq0 => by
 obtain ⟨F, R, σD, out, σD', r, ec, k⟩ := hq0;unfold oz at ec;rcases h1 : c σD with _ | ⟨t, σ1⟩
 ·rw [h1] at ec; cases ec
 ·rw [h1] at ec; simp only [bind_some] at ec
  refine ⟨F, R, σD, t, σ1, r, h1, fun F1 H1 v x1 r1 => ?_⟩;split at ec
  ·rename_i y
   split at ec
   ·rename_i hz
    exact ⟨y, (r1.bor (d := .str y) (v := v) (by simp)).str, of_decide_eq_true hz, F1, R, σ1, out, σD', r1.pop, ec, fun F2 H2 x2 r2 => k F2 H2 (x1.trans x2) r2⟩
   ·cases ec
  ·cases ec
theorem zQ (h : QF X (e1 :: e2 :: es) cs) : QE X (.JoinedStr (e1 :: e2 :: es) pos) (vg cs) := aO (xp h) fun σ H Q hq0 => by
 obtain ⟨F, R, σD, d, σD', r, ec, k⟩ := hq0;unfold vg at ec;rcases h1 : oz cs Str.empty σD with _ | ⟨out, σ1⟩
 ·rw [h1] at ec; cases ec
 ·rw [h1] at ec; cases ec
  exact ⟨F, R, σD, out, _, r, h1, fun F1 H1 x1 r1 => k F1 H1 _ x1 (r1.scal rfl)⟩
end
end DD
namespace TT
open PySem L2 DD PySem.W
section
variable {S : Type} {Γ Γ1 Γ2 : aA S} {c : DE} {cs : List DE}
theorem tf {f : S -> Option (Str × S)} (h : JE Γ c f rS Γ1) : JE Γ (lU c) (fun s => (f s).bind fun p => if decide (p.1.length <= sizeLine) = true then some p else none) rS Γ1 := fun s σ v s' hs e => by
 obtain ⟨⟨a, s1⟩, e1, e⟩ := bd e;dsimp only at e;split at e
 ·rename_i hz
  cases e;obtain ⟨d, σ1, h1, h2, h3⟩ := h s σ _ _ hs e1;cases h2;exact ⟨_, σ1, by simp only [lU, h1, bind_some, hz, if_true], rfl, h3⟩
 ·cases e
theorem xM {f : S -> Option (Int × S)} (h : JE Γ c f rI Γ1) : JE Γ (lU c) (fun s => (f s).bind fun p => if decide (p.1.natAbs.log2 < 1920) = true then some (Str.ofString (toString p.1), p.2) else none) rS Γ1 := fun s σ v s' hs e => by
 obtain ⟨⟨a, s1⟩, e1, e⟩ := bd e;dsimp only at e;split at e
 ·rename_i hz
  cases e;obtain ⟨d, σ1, h1, h2, h3⟩ := h s σ _ _ hs e1;cases h2;exact ⟨_, σ1, by simp only [lU, h1, bind_some, hz, if_true], rfl, h3⟩
 ·cases e
noncomputable def An (Γ : aA S) (cs : List DE) (g : Str -> S -> Option (Str × S)) (Γ' : aA S) : Prop := ∀ acc s σ v s', Sat Γ s σ -> g acc s = some (v, s') -> ∃ σ', oz cs acc σ = some (v, σ') /\ Sat Γ' s' σ'
theorem u0 : An Γ [] (fun acc s => if decide (acc.length <= sizeLine) = true then some (acc, s) else none) Γ := fun acc s σ v s' hs e => by
 dsimp only at e;split at e
 ·rename_i hz
  cases e;exact ⟨σ, by simp only [oz, hz, if_true], hs⟩
 ·cases e
theorem eH {f : S -> Option (Str × S)} {g : Str -> S -> Option (Str × S)} (h : JE Γ c f rS Γ1) (hr : An Γ1 cs g Γ2) : An Γ (c :: cs) (fun acc s => (f s).bind fun p => if decide ((acc ++ p.1).length <= sizeLine) = true then g (acc ++ p.1) p.2 else none) Γ2 := fun acc s σ v s' hs e => by
 obtain ⟨⟨a, s1⟩, e1, e⟩ := bd e;dsimp only at e;split at e
 ·rename_i hz
  obtain ⟨d, σ1, h1, h2, h3⟩ := h s σ _ _ hs e1;cases h2;obtain ⟨σ2, h4, h5⟩ := hr _ _ _ _ _ h3 e;exact ⟨σ2, by simp only [oz, h1, bind_some, hz, if_true, h4], h5⟩
 ·cases e
theorem z6 {g : Str -> S -> Option (Str × S)} (h : An Γ cs g Γ1) : JE Γ (vg cs) (g Str.empty) rS Γ1 := fun s σ v s' hs e => by
 obtain ⟨σ1, h1, h2⟩ := h _ _ _ _ _ hs e;exact ⟨_, σ1, by simp only [vg, h1, map_some], rfl, h2⟩
end
end TT
namespace DD
open PySem PySem.Spec PyProof.Rows L2
theorem ss {X : Cx} {x y : Str} {pos : Pos} (hg : Gl X x) (hm : ∃ t, X.mg x = some (.str y t)) (hd : autoParam ((x == ("__debug__" : Str)) = false) cx._auto_1) : QB X (.Name x pos) (pC (.str y)) := by
 obtain ⟨t, hm⟩ := hm;exact aO (uQ (v := .str y) hg hm ⟨t, rfl⟩ hd) fun σ H Q hq => by
  obtain ⟨F, R, σD, d, r, ec, k⟩ := hq;cases ec; exact k F H _ Grow.refl ⟨[], Ow.of_sc rfl⟩
end DD
namespace TT
open PySem L2 DD PySem.W
theorem u6 : nh fo (fun x : Str => if x.length <= sizeLine then some (x.length : Int) else none) rS rI := fun a c x e h => by
 cases h;dsimp only at e;split at e
 ·rename_i hz
  cases e;exact ⟨_, by simp only [fo, hz, if_true], rfl⟩
 ·cases e
noncomputable def qq (z : Str) (i : Int) : Option Str := if z.length <= sizeLine then (atI z.cps.toList i).map fun c => ⟨#[c]⟩ else none
theorem sX : JO dJ qq rS rI rS := fun a b c x y e h1 h2 => by
 cases h1; cases h2;unfold qq at e;split at e
 ·rename_i hz
  obtain ⟨k, e1, e2⟩ := mp e;subst e2;exact ⟨_, by simp only [dJ, hz, if_true, e1, map_some], rfl⟩
 ·cases e
section
variable {S : Type} {Γ Γ1 Γ2 : aA S} {c c' : DE}
end
end TT
namespace L2
open PySem PySem.Spec PyProof.Rows
end L2
namespace DD
open PySem PySem.Spec PyProof.Rows L2
section
variable {X : Cx} {e : Expr} {lo hi : Option Expr} {pl ph : Option DP} {p : DP} {pos p2 : Pos}
end
end DD
namespace TT
open PySem L2 DD PySem.W
section
variable {S : Type} {α : Type} {Γ : aA S}
end
end TT
namespace L2
open PySem PySem.Spec PyProof.Rows
end L2
namespace DD
open PySem PySem.Spec PyProof.Rows L2
section
variable {X : Cx} {st : Stmt} {sts : List Stmt} {s s1 s2 : DS} {W W1 W2 : List Nat}
end
section
variable {X : Cx} {s1 s2 : DS} {pos : Pos} {W1 W2 : List Nat} {body : List Stmt}
end
end DD
namespace TT
open PySem L2 DD
section
variable {S : Type} {α τ ρ : Type} {Γ Γ1 Γb Γ2 : aA S} {E : Ex S ρ}
end
end TT
namespace DD
open PySem PySem.Spec PyProof.Rows L2
section
variable {X : Cx} {e1 e2 : Expr} {pos : Pos}
end
end DD
namespace TT
open PySem L2 DD
section
variable {S : Type} {α β γ δ ρ : Type} {Γ : aA S}
end
end TT
namespace L2
open PySem PySem.Spec PyProof.Rows PySem.W
noncomputable abbrev Zp (h : Heap) (z TI TO : Addr) (f0 : Value) (b : Bool) : Prop := h.get? z = some { cls := .type "zip", dict := none, data := .fields #[f0, .bool b, .bool false, .ref TI, .ref TO], slots := #[] }
section
variable {prog : Program} {w : World} {A : Around} {E : Value -> Shared -> Prop} {s : Shared}
theorem yt {z TI TO i1 i2 l1 l2 T : Addr} {b : Bool} {oT : Obj} {k1 k2 : Nat} {xs ys : Array Value} {x y : Value} {Q : Value -> Shared -> Prop} (D : ZipApart z TI TO i1 i2 l1 l2)
  (hz : Zp s.heap z TI TO (rawInt T) b) (hT : s.heap.get? T = some oT) (hTI : IsPair s.heap TI (.ref i1) (.ref i2))
  (h1 : s.heap.IsListIter i1 l1 k1) (h2 : s.heap.IsListIter i2 l2 k2) (hl1 : s.heap.IsList l1 xs) (hl2 : s.heap.IsList l2 ys) (hx : xs[k1]? = some x) (hy : ys[k2]? = some y)
  (hQ : ∀ h', Zp h' z TI TO (rawInt T) true -> h'.IsListIter i1 l1 (k1 + 1) -> h'.IsListIter i2 l2 (k2 + 1) -> IsPair h' s.heap.objs.size x y -> h'.objs.size = s.heap.objs.size + 1 ->
   (∀ c o, c ≠ z -> c ≠ i1 -> c ≠ i2 -> s.heap.get? c = some o -> h'.get? c = some o) -> Q (.ref s.heap.objs.size) { s with heap := h' }) :
  wpAny (model prog w) A (Builtin.«zip.__next__» ⟨[.ref z], []⟩) (fun fin s' => ∃ v, fin = .done (.ret v) /\ Q v s') E s := by
 have free : wpAny (model prog w) A (Builtin.SmallTypes.ownedTupleIsFree (.ref z)) (fun q s' => q = false /\ ∃ h₁, s' = { s with heap := h₁ } /\ Zp h₁ z TI TO (rawInt T) true /\ Heap.SameBut z s.heap h₁) E s := by
  unfold Builtin.SmallTypes.ownedTupleIsFree;refine wpAny_bind (wpAny_field hz rfl (x := rawInt T) rfl ?_);show wpAny _ _ (loadIfAlive ((T : Int).toNat) >>= _) _ _ _;rw [Int.toNat_natCast];refine wpAny_bind (kdx_alive hT ?_);simp only [Option.isNone_some, Bool.false_eq_true, if_false];refine wpAny_bind (wpAny_field hz rfl (x := .bool b) rfl ?_);cases b with
  | true =>
   rw [if_neg (show ¬ ((Value.bool true != Value.bool true) = true) from Bool.false_ne_true)];exact wpAny_pure ⟨rfl, s.heap, rfl, hz, Heap.SameBut.refl _ _⟩
  | false =>
   rw [if_pos (show (Value.bool false != Value.bool true) = true from rfl)];exact wpAny_bind (wpAny_setField_rec hz (by simp) fun h₁ hz₁ hs₁ => wpAny_pure ⟨rfl, h₁, rfl, hz₁, hs₁⟩)
 show wpAny _ _ (field (.ref z) 2 >>= _) _ _ _;refine wpAny_bind (wpAny_field hz rfl (x := .bool false) rfl ?_);show wpAny _ _ (field (.ref z) 3 >>= _) _ _ _;refine wpAny_bind (wpAny_field hz rfl (x := .ref TI) rfl ?_);refine wpAny_bind (wpAny_seqItems hTI rfl ?_);show wpAny _ _ (Builtin.SmallTypes.ownedTupleIsFree (.ref z) >>= _) _ _ _;refine wpAny_bind (rD free fun q s' hq => ?_);obtain ⟨rfl, h₁, rfl, hz₁, hs₁⟩ := hq;simp only [Bool.false_eq_true, if_false];refine wpAny_bind ?_;rw [<- Array.forIn_toList];simp only [List.forIn_cons, List.forIn_nil];refine wpAny_bind (wpAny_bind (wpAny_holding ?_));show wpAny _ _ (Builtin.SmallTypes.nextOf (.ref i1) >>= _) _ _ _;refine wpAny_bind (wpAny_nextOf_list_item (h1.extBut hs₁.extBut D.i1z) (hl1.extBut hs₁.extBut D.l1z) hx fun h₂ h1₂ hs₂ => wpAny_pure (wpAny_pure ?_));refine wpAny_bind (wpAny_bind (wpAny_holding ?_));show wpAny _ _ (Builtin.SmallTypes.nextOf (.ref i2) >>= _) _ _ _;refine wpAny_bind (wpAny_nextOf_list_item ((h2.extBut hs₁.extBut D.i2z).extBut hs₂.extBut D.i12.symm) ((hl2.extBut hs₁.extBut D.l2z).extBut hs₂.extBut D.l2i1) hy fun h₃ h2₃ hs₃ => wpAny_pure (wpAny_pure (wpAny_pure ?_)));refine wpAny_bind (wpAny_newTuple ?_ (by show 2 <= sizeLine; decide));have hz3 : h₃.objs.size = s.heap.objs.size := by rw [hs₃.1, hs₂.1, hs₁.1]
 have up : ∀ c o, c ≠ z -> c ≠ i1 -> c ≠ i2 -> s.heap.get? c = some o -> h₃.get? c = some o := fun c o c1 c2 c3 e => hs₃.extBut _ _ c3 (hs₂.extBut _ _ c2 (hs₁.extBut _ _ c1 e))
 refine wpAny_pure ⟨_, rfl, ?_⟩;show Q (.ref h₃.objs.size) _;rw [hz3];refine hQ (h₃.push { cls := .type "tuple", data := .seq #[x, y] }) (Heap.get?_push_of_some _ (hs₃.extBut _ _ D.i2z.symm (hs₂.extBut _ _ D.i1z.symm hz₁))) ((h1₂.extBut hs₃.extBut D.i12).at fun o e => Heap.get?_push_of_some _ e) (h2₃.at fun o e => Heap.get?_push_of_some _ e) ?_ (by rw [Heap.size_push, hz3]) (fun c o c1 c2 c3 e => Heap.get?_push_of_some _ (up c o c1 c2 c3 e));rw [<- hz3];exact Heap.get?_push_size _ rfl
theorem Au {z TI TO i1 i2 l1 l2 T : Addr} {b : Bool} {oT : Obj} {k1 k2 : Nat} {xs ys : Array Value} {x y : Value} {Q : Option Value -> Shared -> Prop} (D : ZipApart z TI TO i1 i2 l1 l2)
  (hz : Zp s.heap z TI TO (rawInt T) b) (hT : s.heap.get? T = some oT) (hTI : IsPair s.heap TI (.ref i1) (.ref i2))
  (h1 : s.heap.IsListIter i1 l1 k1) (h2 : s.heap.IsListIter i2 l2 k2) (hl1 : s.heap.IsList l1 xs) (hl2 : s.heap.IsList l2 ys) (hx : xs[k1]? = some x) (hy : ys[k2]? = some y)
  (hQ : ∀ h', Zp h' z TI TO (rawInt T) true -> h'.IsListIter i1 l1 (k1 + 1) -> h'.IsListIter i2 l2 (k2 + 1) -> IsPair h' s.heap.objs.size x y -> h'.objs.size = s.heap.objs.size + 1 ->
   (∀ c o, c ≠ z -> c ≠ i1 -> c ≠ i2 -> s.heap.get? c = some o -> h'.get? c = some o) -> Q (some (.ref s.heap.objs.size)) { s with heap := h' }) :
  wpAny (model prog w) A (pyNext (.ref z)) Q E s := by
 have hY : s.TypeIs (.ref z) "zip" := ⟨_, hz, rfl⟩;unfold pyNext;exact wpAny_bind (wpAny_attempt (wpAny_callSpecial?_slot (name := Str.ofString "__next__") hY PySem.F.slot_zip_next (wpAny_call_entry PySem.F.slot_zip_next hY PySem.F.entry_zip_next
  (yt D hz hT hTI h1 h2 hl1 hl2 hx hy fun h' a1 a2 a3 a4 a5 a6 => wpAny_pure (hQ h' a1 a2 a3 a4 a5 a6)) (PySem.F.args_zip_next_1 _))))
theorem As {z TI TO i1 i2 l1 l2 T : Addr} {b : Bool} {oT : Obj} {k1 : Nat} {xs : Array Value} {Q : Option Value -> Shared -> Prop} (hh : A.handled = none) (D : ZipApart z TI TO i1 i2 l1 l2)
  (hz : Zp s.heap z TI TO (rawInt T) b) (hT : s.heap.get? T = some oT) (hTI : IsPair s.heap TI (.ref i1) (.ref i2))
  (h1 : s.heap.IsListIter i1 l1 k1) (hl1 : s.heap.IsList l1 xs) (hx : xs[k1]? = none)
  (hQ : ∀ h', (∀ c o, c ≠ z -> c ≠ i1 -> s.heap.get? c = some o -> h'.get? c = some o) -> Q none { s with heap := h' }) : wpAny (model prog w) A (pyNext (.ref z)) Q E s := by
 have hY : s.TypeIs (.ref z) "zip" := ⟨_, hz, rfl⟩;have free : wpAny (model prog w) A.in1 (Builtin.SmallTypes.ownedTupleIsFree (.ref z)) (fun q s' => q = false /\ ∃ h₁, s' = { s with heap := h₁ } /\ Zp h₁ z TI TO (rawInt T) true /\ Heap.SameBut z s.heap h₁) (fun _ _ => False) s := by
  unfold Builtin.SmallTypes.ownedTupleIsFree;refine wpAny_bind (wpAny_field hz rfl (x := rawInt T) rfl ?_);show wpAny _ _ (loadIfAlive ((T : Int).toNat) >>= _) _ _ _;rw [Int.toNat_natCast];refine wpAny_bind (kdx_alive hT ?_);simp only [Option.isNone_some, Bool.false_eq_true, if_false];refine wpAny_bind (wpAny_field hz rfl (x := .bool b) rfl ?_);cases b with
  | true =>
   rw [if_neg (show ¬ ((Value.bool true != Value.bool true) = true) from Bool.false_ne_true)];exact wpAny_pure ⟨rfl, s.heap, rfl, hz, Heap.SameBut.refl _ _⟩
  | false =>
   rw [if_pos (show (Value.bool false != Value.bool true) = true from rfl)];exact wpAny_bind (wpAny_setField_rec hz (by simp) fun h₁ hz₁ hs₁ => wpAny_pure ⟨rfl, h₁, rfl, hz₁, hs₁⟩)
 unfold pyNext;refine wpAny_bind (wpAny_attempt (wpAny_callSpecial?_slot (name := Str.ofString "__next__") hY PySem.F.slot_zip_next (wpAny_call_entry PySem.F.slot_zip_next hY PySem.F.entry_zip_next ?_ (PySem.F.args_zip_next_1 _))));show wpAny _ _ (field (.ref z) 2 >>= _) _ _ _;refine wpAny_bind (wpAny_field hz rfl (x := .bool false) rfl ?_);show wpAny _ _ (field (.ref z) 3 >>= _) _ _ _;refine wpAny_bind (wpAny_field hz rfl (x := .ref TI) rfl ?_);refine wpAny_bind (wpAny_seqItems hTI rfl ?_);show wpAny _ _ (Builtin.SmallTypes.ownedTupleIsFree (.ref z) >>= _) _ _ _;refine wpAny_bind (wpAny_mono free (fun q s' hq => ?_) fun _ _ x => x.elim);obtain ⟨rfl, h₁, rfl, hz₁, hs₁⟩ := hq;simp only [Bool.false_eq_true, if_false];refine wpAny_bind ?_;rw [<- Array.forIn_toList];simp only [List.forIn_cons, List.forIn_nil];refine wpAny_bind (wpAny_bind (wpAny_holding ?_));show wpAny _ _ (Builtin.SmallTypes.nextOf (.ref i1) >>= _) _ _ _;refine wpAny_bind (wpAny_nextOf_list_end hh (h1.extBut hs₁.extBut D.i1z) (hl1.extBut hs₁.extBut D.l1z) hx fun h₂ e hs₂ he => ?_);obtain ⟨oe, hoe, hce⟩ := he;refine wpAny_bind (wpAny_isInstance (T := "StopIteration") (b := true) ⟨oe, hoe, hce⟩ isSubtype_stop ?_);exact wpAny_pure (hQ _ fun c o c1 c2 e => hs₂ c o c2 (hs₁.extBut c o c1 e))
end
noncomputable def fv : Hp -> List Addr -> List V -> List V -> Hp
 | H, a :: as, x :: xs, y :: ys => fv (ay H a (.tup [x, y])) as xs ys
 | H, _, _, _ => H
theorem xI : ∀ {as : List Addr} {H : Hp} {xs ys : List V} {a : Addr} {x y : V}, xs[as.length]? = some x -> ys[as.length]? = some y -> fv H (as ++ [a]) xs ys = ay (fv H as xs ys) a (.tup [x, y]) := by
 intro as
 induction as with
 | nil =>
  intro H xs ys a x y hx hy;cases xs with
  | nil => simp at hx
  | cons x' xs =>
   cases ys with
   | nil => simp at hy
   | cons y' ys =>
    simp at hx hy;subst hx; subst hy;cases xs <;> cases ys <;> rfl
 | cons b as ih =>
  intro H xs ys a x y hx hy;cases xs with
  | nil => simp at hx
  | cons x' xs =>
   cases ys with
   | nil => simp at hy
   | cons y' ys => exact ih (by simpa using hx) (by simpa using hy)
theorem pJ : ∀ {as : List Addr} {H : Hp} {xs ys : List V} {c : Addr}, c ∉ as -> fv H as xs ys c = H c := by
 intro as
 induction as with
 | nil => intro H xs ys c _; cases xs <;> cases ys <;> rfl
 | cons b as ih =>
  intro H xs ys c hc;cases xs with
  | nil => rfl
  | cons x xs =>
   cases ys with
   | nil => rfl
   | cons y ys =>
    show fv (ay H b _) as xs ys c = H c;rw [ih fun z => hc (List.mem_cons_of_mem _ z), aw fun z => hc (by rw [z]; exact List.mem_cons_self)]
theorem yu {H : Hp} {a b : Addr} {o u v : HO} (h : a ≠ b) : ay (ay (ay H b o) a u) b v = ay (ay H a u) b v := by
 funext c;by_cases hb : c = b
 ·subst hb; rw [bG, bG]
 ·rw [aw hb, aw hb]
  by_cases ha : c = a
  ·subst ha; rw [bG, bG]
  ·rw [aw ha, aw ha, aw hb]
theorem nn {a b : Nat} (h : a < b \/ b < a) : @Ne Addr a b := fun e => by
 have e' : @Eq Nat a b := e;omega
structure ZS (X : Cx) (aa : List (Addr × Obj)) (σ : St) (H1 : Hp) (n l1 l2 : Nat) (its1 its2 : List Value) (vs us : List V) (i : Nat) (as : List Addr) (s : Shared) : Prop where
 inv : Inv X aa σ (ay (fv H1 as vs us) (n + 5) (.lst (as.map V.ref))) s
 zp : (as = [] /\ Zp s.heap (n + 4) (n + 2) (n + 3) .none false /\ ∃ a b, IsPair s.heap (n + 3) a b) \/ ∃ (T : Addr) (b : Bool) (o : Obj), Zp s.heap (n + 4) (n + 2) (n + 3) (rawInt T) b /\ s.heap.get? T = some o /\ n + 6 <= T
 to : ∃ o, s.heap.get? (n + 3) = some o
 ti : IsPair s.heap (n + 2) (.ref n) (.ref (n + 1))
 it1 : s.heap.IsListIter n l1 i
 it2 : s.heap.IsListIter (n + 1) l2 i
 ls1 : s.heap.IsList l1 its1.toArray
 ls2 : s.heap.IsList l2 its2.toArray
 lS : ∃ acc c, s.heap.get? (n + 5) = some { cls := .type "list", dict := none, data := .seq acc c, slots := #[] } /\ acc.toList = as.map Value.ref
 len : as.length = i
 lo : ∀ a ∈ as, n + 6 <= a
 up : ∀ a ∈ as, a < s.heap.objs.size
 nd : as.Nodup
 sz : n + 6 <= s.heap.objs.size
section
variable {X : Cx} {aa : List (Addr × Obj)} {σ : St} {H1 : Hp} {s1 : Shared} {l1 l2 n : Nat} {its1 its2 : List Value} {vs us : List V} {A : Around}
theorem yi (b1 : l1 < n) (b2 : l2 < n) : ZipApart (n + 4) (n + 2) (n + 3) n (n + 1) l1 l2 := by
 constructor <;> (show @Ne Nat _ _; omega)
theorem Ar (I1 : Inv X aa σ H1 s1) (hn : s1.heap.objs.size = n) (b1 : l1 < n) (b2 : l2 < n) (rv1 : Vals vs its1) (rv2 : Vals us its2) (hlen : its1.length = its2.length) (hN : its1.length <= sizeLine) {i : Nat} {as : List Addr} {s : Shared} (hi : i < its1.length) (z : ZS X aa σ H1 n l1 l2 its1 its2 vs us i as s) {E : Value -> Shared -> Prop} {Q : Option Value -> Shared -> Prop}
  (hQ : ∀ h' x y, vs[i]? = some x -> us[i]? = some y -> Inv X aa σ (ay (ay (fv H1 as vs us) (n + 5) (.lst (as.map V.ref))) s.heap.objs.size (.tup [x, y])) { s with heap := h' } -> (∃ (T : Addr) (b : Bool) (o : Obj), Zp h' (n + 4) (n + 2) (n + 3) (rawInt T) b /\ h'.get? T = some o /\ n + 6 <= T) ->
   h'.IsListIter n l1 (i + 1) -> h'.IsListIter (n + 1) l2 (i + 1) -> h'.objs.size = s.heap.objs.size + 1 -> (∃ o, h'.get? s.heap.objs.size = some o) -> (∃ o, h'.get? (n + 3) = some o) -> (∀ c o, c ≠ n + 4 -> c ≠ n + 3 -> c ≠ n -> c ≠ n + 1 -> s.heap.get? c = some o -> h'.get? c = some o) -> Q (some (.ref s.heap.objs.size)) { s with heap := h' }) :
  wpAny (model X.prog X.w) A (pyNext (.ref (n + 4))) Q E s := by
 have D := yi (n := n) b1 b2;obtain ⟨u1, hu1⟩ : ∃ u, its1[i]? = some u := ⟨its1[i], by simp [hi]⟩;obtain ⟨u2, hu2⟩ : ∃ u, its2[i]? = some u := ⟨its2[i]'(by omega), by simp [show i < its2.length by omega]⟩;have lv1 := rv1.length;have lv2 := rv2.length;obtain ⟨x, hx⟩ : ∃ x, vs[i]? = some x := ⟨vs[i]'(by omega), by simp [show i < vs.length by omega]⟩;obtain ⟨y, hy⟩ : ∃ y, us[i]? = some y := ⟨us[i]'(by omega), by simp [show i < us.length by omega]⟩;have ru1 : RelV x u1 := by obtain ⟨u, e, r⟩ := rv1.get hx; rw [hu1] at e; cases e; exact r
 have ru2 : RelV y u2 := by obtain ⟨u, e, r⟩ := rv2.get hy; rw [hu2] at e; cases e; exact r
 have fp : ∀ c, n <= c -> c < n + 5 -> eJ X aa (ay (fv H1 as vs us) (n + 5) (.lst (as.map V.ref))) c := fun c h1 h2 => by
  refine I1.fpOk (by rw [hn]; exact h1) ?_;rw [aw (nn oM), pJ (fun hc => by have := z.lo c hc; omega)];exact I1.hok.fresh (by rw [hn]; exact h1)
 have hsz := z.sz;have fin : ∀ h' : Heap, (∃ (T : Addr) (b : Bool) (o : Obj), Zp h' (n + 4) (n + 2) (n + 3) (rawInt T) b /\ h'.get? T = some o /\ n + 6 <= T) -> h'.IsListIter n l1 (i + 1) -> h'.IsListIter (n + 1) l2 (i + 1) -> IsPair h' s.heap.objs.size u1 u2 -> h'.objs.size = s.heap.objs.size + 1 -> (∃ o, h'.get? (n + 3) = some o) ->
   (∀ c o, c ≠ n + 4 -> c ≠ n + 3 -> c ≠ n -> c ≠ n + 1 -> s.heap.get? c = some o -> h'.get? c = some o) -> Q (some (.ref s.heap.objs.size)) { s with heap := h' } := fun h' a1 a3 a4 a5 a6 a7 hk => by
  refine hQ h' x y hx hy ?_ a1 a3 a4 a6 ⟨_, a5⟩ a7 hk;refine z.inv.turnT (ch := [n + 4, n + 3, n, n + 1]) (fun c hc => ?_) ru1 ru2 (fun c o hc e => hk c o (fun q => hc (by simp [q])) (fun q => hc (by simp [q])) (fun q => hc (by simp [q])) (fun q => hc (by simp [q])) e) a5 (fun c hc => ?_)
  ·simp only [List.mem_cons, List.not_mem_nil, or_false] at hc
   rcases hc with rfl | rfl | rfl | rfl <;> exact fp _ oM oM
  ·simp only [List.mem_cons, List.not_mem_nil, or_false] at hc
   obtain ⟨T, b, o, q, _⟩ := a1;obtain ⟨o1, e1, _⟩ := id a3;obtain ⟨o2, e2, _⟩ := id a4;rcases hc with rfl | rfl | rfl | rfl
   ·exact ⟨_, q⟩
   ·exact a7
   ·exact ⟨_, e1⟩
   ·exact ⟨_, e2⟩
 rcases z.zp with ⟨_, hz, ua, ub, hTO⟩ | ⟨T, b, o, hz, hT, hTn⟩
 ·refine wpAny_pyNext_zip_item D hz z.ti hTO z.it1 z.it2 z.ls1 z.ls2 (x := u1) (y := u2) (by simpa using hu1) (by simpa using hu2) fun h' a1 a2 a3 a4 a5 a6 hk => ?_
  exact fin h' ⟨s.heap.objs.size, false, _, a1, a5, hsz⟩ a3 a4 a5 a6 ⟨_, a2⟩ hk
 ·refine Au D hz hT z.ti z.it1 z.it2 z.ls1 z.ls2 (x := u1) (y := u2) (by simpa using hu1) (by simpa using hu2) fun h' a1 a3 a4 a5 a6 hk => ?_
  obtain ⟨o3, e3⟩ := z.to;exact fin h' ⟨T, true, o, a1, hk T o (nn oM) (nn oM) (nn oM) hT, hTn⟩ a3 a4 a5 a6 ⟨o3, hk _ _ (nn oM) (nn oM) (nn oM) e3⟩ (fun c o c1 c2 c3 c4 e => hk c o c1 c3 c4 e)
theorem Bh (I1 : Inv X aa σ H1 s1) (hn : s1.heap.objs.size = n) (b1 : l1 < n) (b2 : l2 < n) (rv1 : Vals vs its1) (rv2 : Vals us its2) (hlen : its1.length = its2.length) (hN : its1.length <= sizeLine) (h1 : 1 <= its1.length) (hh : A.handled = none) {R : Result -> Shared -> Prop} (res : Value)
  (hR : ∀ s' as, Inv X aa σ (ay (fv H1 as vs us) (n + 5) (.lst (as.map V.ref))) s' -> as.length = its1.length -> as.Nodup -> (∀ a ∈ as, n + 6 <= a) -> R (.ok (.ret res)) s') :
  ∀ (k i : Nat) (as : List Addr) (s : Shared), its1.length - i = k -> i <= its1.length -> ZS X aa σ H1 n l1 l2 its1 its2 vs us i as s -> codeAny (model X.prog X.w) A (.builtin "list.extend.loop" ⟨[.ref (n + 5), .ref (n + 4), res], []⟩) R s := by
 have D := yi (n := n) b1 b2;intro k
 induction k with
 | zero =>
  intro i as s hk hi z;have ei : i = its1.length := by omega
  subst ei;refine codeAny_builtin PySem.F.entry_extend_loop ?_;rw [Around.under_plainId PySem.F.plain_extend_loop _];show wpAny _ A.in1 (pyNext (.ref (n + 4)) >>= _) _ _ s;rcases z.zp with ⟨e0, _⟩ | ⟨T, b, o, hz, hT, hTn⟩
  ·have := z.len
   rw [e0] at this;simp at this;omega
  ·refine wpAny_bind (As (A := A.in1) hh D hz hT z.ti z.it1 z.ls1 (by simp) fun h' hk' => ?_)
   refine wpAny_pure (hR _ as ?_ z.len z.nd z.lo);refine z.inv.turnN (ch := [n + 4, n]) (fun c hc => ?_) (fun c o hc e => hk' c o (fun q => hc (by simp [q])) (fun q => hc (by simp [q])) e);have fp : ∀ c, n <= c -> c < n + 5 -> eJ X aa (ay (fv H1 as vs us) (n + 5) (.lst (as.map V.ref))) c := fun c h1 h2 => by
    refine I1.fpOk (by rw [hn]; exact h1) ?_;rw [aw (nn oM), pJ (fun hc => by have := z.lo c hc; omega)];exact I1.hok.fresh (by rw [hn]; exact h1)
   simp only [List.mem_cons, List.not_mem_nil, or_false] at hc;rcases hc with rfl | rfl <;> exact fp _ oM oM
 | succ k ih =>
  intro i as s hk hi z;refine codeAny_builtin PySem.F.entry_extend_loop ?_;rw [Around.under_plainId PySem.F.plain_extend_loop _];show wpAny _ A.in1 (pyNext (.ref (n + 4)) >>= _) _ _ s;refine wpAny_bind (Ar I1 hn b1 b2 rv1 rv2 hlen hN oM z fun h' x y hx hy inv' a1 a3 a4 a6 a5 a7 hkp => ?_);obtain ⟨acc, c, hS, hacc⟩ := z.lS;have hS' := hkp (n + 5) _ (nn oM) (nn oM) (nn oM) (nn oM) hS;have hsz := z.sz;have hal : acc.size = i := by rw [<- Array.length_toList, hacc, List.length_map, z.len]
  have up : ∀ b o, b ≠ n + 5 -> h'.get? b = some o -> (h'.update (n + 5) (Obj.mapSeq (·.push (Value.ref s.heap.objs.size)))).get? b = some o := fun b o hb e => (Heap.get?_update_other _ _ (Ne.symm hb)).trans e
  have hnew := Heap.get?_update_self (Obj.mapSeq (·.push (Value.ref s.heap.objs.size))) hS' rfl;have hacc2 : (acc.push (Value.ref s.heap.objs.size)).toList = (as ++ [s.heap.objs.size]).map Value.ref := by rw [Array.toList_push, hacc, List.map_append]; rfl
  show wpAny _ A.in1 (updateSeq (n + 5) (·.push (Value.ref s.heap.objs.size)) >>= _) _ _ _;refine wpAny_bind ?_;refine wpAny_updateSeq hS' rfl (wpAny_pure ⟨plainId_quiet PySem.F.plain_extend_loop _, ih (i + 1) (as ++ [s.heap.objs.size]) _ oM oM ?_⟩) (by rw [hal]; omega) (by show (acc.push (Value.ref s.heap.objs.size)).size <= sizeLine + 1; rw [Array.size_push, hal]; omega);have hsize : (h'.update (n + 5) (Obj.mapSeq (·.push (Value.ref s.heap.objs.size)))).objs.size = s.heap.objs.size + 1 := by
   rw [(Heap.SameBut.update ..).1, a6]
  refine ⟨?_, .inr ?_, ?_, up _ _ (nn oM) (hkp _ _ (nn oM) (nn oM) (nn oM) (nn oM) z.ti), a3.at fun o e => up _ o (nn oM) e, a4.at fun o e => up _ o (nn oM) e, z.ls1.at fun o e => up _ o (nn oM) (hkp _ o (nn oM) (nn oM) (nn oM) (nn oM) e),
   z.ls2.at fun o e => up _ o (nn oM) (hkp _ o (nn oM) (nn oM) (nn oM) (nn oM) e), ⟨_, _, hnew, hacc2⟩, by rw [List.length_append, z.len]; rfl, ?_, ?_, ?_, ?_⟩
  ·have q := inv'.write (x := n + 5) (e := n + 5) (o := .lst ((as ++ [s.heap.objs.size]).map V.ref)) (t' := s.toks) (h' := h'.update (n + 5) (Obj.mapSeq (·.push (Value.ref s.heap.objs.size)))) (by
    rw [aw (nn oM), bG]; exact trivial) (.inl rfl) (fun b u hb e => up b u hb e) ⟨_, hnew⟩ ⟨by rw [List.length_map, List.length_append, z.len]; show i + 1 <= sizeLine; omega, (as ++ [s.heap.objs.size]).map Value.ref, _, p7 _, by rw [<- hacc2, Array.toArray_toList]; exact hnew⟩
   rw [yu (nn oM), <- xI (by rw [z.len]; exact hx) (by rw [z.len]; exact hy)] at q;exact q
  ·obtain ⟨T, b, o, q1, q2, q3⟩ := a1
   exact ⟨T, b, o, up _ _ (nn oM) q1, up _ _ (nn oM) q2, q3⟩
  ·obtain ⟨o, e⟩ := a7
   exact ⟨o, up _ _ (nn oM) e⟩
  ·intro a ha
   rcases List.mem_append.mp ha with ha | ha
   ·exact z.lo a ha
   ·rw [List.mem_singleton.mp ha]; exact hsz
  ·intro a ha
   show a < (h'.update (n + 5) (Obj.mapSeq (·.push (Value.ref s.heap.objs.size)))).objs.size;rw [hsize];rcases List.mem_append.mp ha with ha | ha
   ·exact Nat.lt_succ_of_lt (z.up a ha)
   ·rw [List.mem_singleton.mp ha]; exact Nat.lt_succ_self _
  ·refine List.nodup_append.mpr ⟨z.nd, List.pairwise_singleton _ _, fun a ha b hb => ?_⟩
   rw [List.mem_singleton.mp hb];exact Nat.ne_of_lt (z.up a ha)
  ·show n + 6 <= (h'.update (n + 5) (Obj.mapSeq (·.push (Value.ref s.heap.objs.size)))).objs.size
   rw [hsize]; omega
end
theorem wy : typeLookup (.type "zip") "__len__" = pure none := by rw [typeLookup_type, builtinLookup_eq_fast]; kernel_rfl
theorem vy : typeLookup (.type "zip") "__length_hint__" = pure none := by rw [typeLookup_type, builtinLookup_eq_fast]; kernel_rfl
section
variable {X : Cx} {aa : List (Addr × Obj)} {σ : St} {H1 : Hp} {s1 : Shared} {l1 l2 : Nat} {its1 its2 : List Value} {vs us : List V} {A : Around} {E : Value -> Shared -> Prop}
theorem tU {h0 : Heap} {tk : Nat} {Q : Value -> Shared -> Prop} (I1 : Inv X aa σ H1 s1) (b1 : l1 < s1.heap.objs.size) (b2 : l2 < s1.heap.objs.size) (rv1 : Vals vs its1) (rv2 : Vals us its2) (hlen : its1.length = its2.length) (hN : its1.length <= sizeLine) (h1 : 1 <= its1.length) (hh : A.handled = none)
  (p1 : s1.heap.IsList l1 its1.toArray) (p2 : s1.heap.IsList l2 its2.toArray) (hz : Zp h0 (s1.heap.objs.size + 4) (s1.heap.objs.size + 2) (s1.heap.objs.size + 3) .none false) (hTI : IsPair h0 (s1.heap.objs.size + 2) (.ref s1.heap.objs.size) (.ref (s1.heap.objs.size + 1))) (hTO : IsPair h0 (s1.heap.objs.size + 3) .none .none)
  (i1 : h0.IsListIter s1.heap.objs.size l1 0) (i2 : h0.IsListIter (s1.heap.objs.size + 1) l2 0) (hsz : h0.objs.size = s1.heap.objs.size + 5) (hk : ∀ c o, s1.heap.get? c = some o -> h0.get? c = some o)
  (hQ : ∀ s' as, Inv X aa σ (ay (fv H1 as vs us) (s1.heap.objs.size + 5) (.lst (as.map V.ref))) s' -> as.length = its1.length -> as.Nodup -> (∀ a ∈ as, s1.heap.objs.size + 6 <= a) -> Q (.ref (s1.heap.objs.size + 5)) s') :
  wpAny (model X.prog X.w) A (call (.type "list") [.ref (s1.heap.objs.size + 4)]) Q E { s1 with heap := h0, toks := tk } := by
 generalize hn : s1.heap.objs.size = n at *;have I2 : Inv X aa σ H1 { s1 with heap := h0, toks := tk } := I1.kept (t' := tk) hk;refine callType_codes (Q₁ := fun obj s₁ => obj = .ref (n + 5) /\ s₁ = { s1 with heap := h0.push { cls := .type "list", data := .seq #[] }, toks := tk }) PySem.F.called_list (PySem.F.typeCall_list_1 _) PySem.F.entry_list_init
  (code_list_new _ ⟨by show Value.ref h0.objs.size = _; rw [hsz], rfl⟩) fun obj s₁ hq => ?_
 obtain ⟨rfl, rfl⟩ := hq;have hS : (h0.push { cls := .type "list", data := .seq #[] }).get? (n + 5) = some { cls := .type "list", data := .seq #[] } := by rw [<- hsz]; exact Heap.get?_push_size _ rfl
 refine ⟨⟨_, hS, rfl⟩, PySem.F.args_list_init_2 _ _, ?_⟩;show wpAny _ _ (do let old <- Builtin.List.listItems (.ref (n + 5)); Builtin.List.listUpdate (.ref (n + 5)) (fun _ => #[]); letGo old.toList.reverse; Builtin.List.listExtendWith (.ref (n + 5)) (.ref (n + 4)) .none) _ _ _;refine wpAny_bind ?_;unfold Builtin.List.listItems;refine wpAny_bind (wpAny_seqItems hS rfl (wpAny_pure ?_));show wpAny _ _ (updateSeq (n + 5) (fun _ => #[]) >>= fun _ => letGo (#[] : Array Value).toList.reverse >>= fun _ => Builtin.List.listExtendWith (.ref (n + 5)) (.ref (n + 4)) .none) _ _ _;refine wpAny_bind (wpAny_updateSeq hS rfl ?_);have hS2 := Heap.get?_update_self (Obj.mapSeq (fun _ => (#[] : Array Value))) hS rfl;refine wpAny_bind (wpAny_letGo ?_);generalize hg2 : (h0.push { cls := .type "list", data := .seq #[] }).update (n + 5) (Obj.mapSeq (fun _ => (#[] : Array Value))) = g2 at hS2;have k2 : ∀ b o, b ≠ n + 5 -> h0.get? b = some o -> g2.get? b = some o := fun b o hb e => by
  rw [<- hg2]; exact (Heap.get?_update_other _ _ (Ne.symm hb)).trans (Heap.get?_push_of_some _ e)
 have z2 : g2.objs.size = n + 6 := by rw [<- hg2, (Heap.SameBut.update ..).1, Heap.size_push, hsz]
 have hz2 := k2 _ _ (nn oM) hz;have hY : Shared.TypeIs { s1 with heap := g2, toks := tk } (.ref (n + 4)) "zip" := ⟨_, hz2, rfl⟩;unfold Builtin.List.listExtendWith;refine wpAny_bind (wpAny_typeOf hY ?_);have e1 : Builtin.List.listSameRef (.ref (n + 5)) (.ref (n + 4)) = false := by simp [Builtin.List.listSameRef]
 have e2 : (Value.type "zip" == Value.type "list") = false := by decide
 have e3 : (Value.type "zip" == Value.type "tuple") = false := by decide
 simp only [e1, e2, e3, Bool.or_false, Bool.false_eq_true, if_false];refine wpAny_bind (wpAny_pyIter_zip hz2 ?_);refine wpAny_bind (wpAny_holding ?_);unfold Builtin.List.listLengthHint;refine wpAny_bind (wpAny_specialOf hY wy ?_);show wpAny _ _ (specialOf (Value.ref (n + 4)) (Str.ofString "__length_hint__") >>= _) _ _ _;refine wpAny_bind (wpAny_specialOf hY vy ?_);refine wpAny_pure ?_;show wpAny _ _ (rule "list.extend.makes-room" >>= fun _ => Builtin.List.listTouch (.ref (n + 5)) >>= fun _ => again (.builtin "list.extend.loop" ⟨[.ref (n + 5), .ref (n + 4), .none], []⟩)) _ _ _;refine wpAny_bind (wpAny_rule ?_);refine wpAny_bind ?_;show wpAny _ _ (updateSeq (n + 5) (·.push .none) >>= fun _ => updateSeq (n + 5) (·.pop)) _ _ _;refine wpAny_bind (wpAny_updateSeq hS2 rfl ?_);have hS3 := Heap.get?_update_self (Obj.mapSeq (·.push Value.none)) hS2 rfl;refine wpAny_updateSeq (hz := by seq_fits) hS3 rfl ?_;have hS4 := Heap.get?_update_self (Obj.mapSeq (·.pop)) hS3 rfl;generalize hg4 : (g2.update (n + 5) (Obj.mapSeq (·.push Value.none))).update (n + 5) (Obj.mapSeq (·.pop)) = g4 at hS4;have k4 : ∀ b o, b ≠ n + 5 -> h0.get? b = some o -> g4.get? b = some o := fun b o hb e => by
  rw [<- hg4]; exact (Heap.get?_update_other _ _ (Ne.symm hb)).trans ((Heap.get?_update_other _ _ (Ne.symm hb)).trans (k2 b o hb e))
 have z4 : g4.objs.size = n + 6 := by rw [<- hg4, (Heap.SameBut.update ..).1, (Heap.SameBut.update ..).1, z2]
 refine wpAny_pure ⟨plainId_quiet PySem.F.plain_extend_loop _, ?_⟩;refine Bh (A := A.in1) I1 hn b1 b2 rv1 rv2 hlen hN h1 hh .none (fun s' as q1 q2 q3 q4 => ⟨rfl, hQ s' as q1 q2 q3 q4⟩) its1.length 0 [] _ oM oM ?_;have ne5 : ∀ b o, h0.get? b = some o -> b ≠ n + 5 := fun b o e => by
  have := Heap.lt_size e
  rw [hsz] at this;exact Nat.ne_of_lt this
 refine ⟨?_, .inl ⟨rfl, k4 _ _ (nn oM) hz, _, _, k4 _ _ (nn oM) hTO⟩, ⟨_, k4 _ _ (nn oM) hTO⟩, k4 _ _ (nn oM) hTI, i1.at fun o e => k4 _ o (nn oM) e, i2.at fun o e => k4 _ o (nn oM) e, p1.at fun o e => k4 _ o (nn oM) (hk _ o e), p2.at fun o e => k4 _ o (nn oM) (hk _ o e),
  ⟨_, _, hS4, rfl⟩, rfl, (fun a ha => nomatch ha), (fun a ha => nomatch ha), List.nodup_nil, by show n + 6 <= g4.objs.size; rw [z4]; exact Nat.le_refl _⟩
 have q := I2.laid (a := n + 5) (o := .lst []) (h' := g4) (t' := tk) (fun b u e => k4 b u (ne5 b u e) e) (by show h0.objs.size <= n + 5; rw [hsz]; exact Nat.le_refl _) ⟨Nat.zero_le _, [], _, .nil, hS4⟩;have e : fv H1 [] vs us = H1 := by cases vs <;> cases us <;> rfl
 rw [e];exact q
end
theorem wt : bootBuiltins "list" = some (.type "list") := by decide +kernel
theorem yf : bootBuiltins "zip" = some (.type "zip") := by decide +kernel
noncomputable def FR (K : PySem.W.Frag) (ta : TA) : TE := fun σ H Q => ta σ H fun ws H1 => ∃ a b xs ys, ws = [.ref a, .ref b] /\ cZ K H1 a xs /\ cZ K H1 b ys /\ xs.length = ys.length /\ 1 <= xs.length /\ ∀ S as, H1 S = none -> S ∉ as -> as.length = xs.length -> as.Nodup -> (∀ c ∈ as, H1 c = none) -> Q (.ref S) (ay (fv H1 as xs ys) S (.lst (as.map V.ref)))
section
variable {X : Cx} {a b : Expr} {ta : TA} {p1 p2 pos pos2 : Pos}
theorem vW (hc : X.calm = true) (hg : Gl X "list") (hm : X.mg "list" = none) (hg2 : Gl X "zip") (hm2 : X.mg "zip" = none) (ha : PA X [a, b] ta) (hs : autoParam (starEach [a, b] X.env = [(false, eval a X.env), (false, eval b X.env)]) au._auto_1) (hs2 : autoParam (starEach [b] X.env = [(false, eval b X.env)]) au._auto_1)
  (hs3 : autoParam (starEach [Expr.Call (.Name "zip" p2) [a, b] [] pos2] X.env = [(false, eval (.Call (.Name "zip" p2) [a, b] [] pos2) X.env)]) au._auto_1) :
  PE X (.Call (.Name "list" p1) [.Call (.Name "zip" p2) [a, b] [] pos2] [] pos) (FR X.K ta) := by
 intro aa s σ H Q I h;refine Call_ (fu I hg hm wt (PyProof.Rows.callWith_type1 ?_ (by rw [hs3]; rfl) (by rfl)));rw [hs3];show wpAny _ _ (spliced [(false, eval (.Call (.Name "zip" p2) [a, b] [] pos2) X.env)]) _ _ s;refine Calls.spliced_cons (Call_ (fu I hg2 hm2 yf (PyProof.Rows.callWith_type1 (bq (ha pos2 aa s σ H _ I h) fun us s1 hq0 => ?_) (by rw [hs, hs2]) (by rw [hs2]; rfl))));obtain ⟨ws, H1, I1, r1, l1, l2, xs, ys, e, hq1, hq2, hxy, h1, q⟩ := hq0;subst e;cases r1 with
 | cons r rr =>
  cases rr with
  | cons r' rr =>
   cases rr;cases r;cases r';obtain ⟨its1, rv1, p1, hz1⟩ := I1.list hq1;obtain ⟨its2, rv2, p2, hz2⟩ := I1.list hq2;have lv1 := rv1.length;have lv2 := rv2.length;have b1 : l1 < s1.heap.objs.size := by obtain ⟨o, e, _⟩ := p1.isList; exact Heap.lt_size e
   have b2 : l2 < s1.heap.objs.size := by obtain ⟨o, e, _⟩ := p2.isList; exact Heap.lt_size e
   refine call_zip_2 p1.isList p2.isList fun h' hz hTI hTO i1 i2 hsz hk => ?_
   refine Calls.spliced_nil ?_;refine tU (tk := s1.toks) I1 b1 b2 rv1 rv2 oM oM oM (I.ok.hd hc) p1.isList p2.isList hz hTI hTO i1 i2 hsz hk fun s' as inv hl hnd hlo => ?_
   refine ⟨.ref (s1.heap.objs.size + 5), _, inv, rfl, q _ as (I1.hok.fresh (Nat.le_add_right _ _)) (fun hc => ?_) oM hnd (fun c hc => I1.hok.fresh ?_)⟩
   ·exact absurd (hlo _ hc) oM
   ·have := hlo c hc
    omega
end
end L2
namespace DD
open PySem PySem.Spec PyProof.Rows L2
noncomputable def o9 : List D -> List D -> List D
 | x :: xs, y :: ys => .tup [x, y] :: o9 xs ys
 | _, _ => []
noncomputable def xY (ca : DA) : DE := fun σ => (ca σ).bind fun p => match p.1 with
 | [.lst _ xs, .lst _ ys] => if xs.length = ys.length /\ 1 <= xs.length then some (.lst true (o9 (D.fzL xs) (D.fzL ys)), p.2) else none
 | _ => none
theorem xH {K : PySem.W.Frag} : ∀ {as : List Addr} {F : Addr -> Prop} {H : Hp} {dx dy : List D} {vs us : List V}, (∀ a, F a -> ∃ o, H a = some o) -> OwL K F H dx vs [] -> OwL K F H dy us [] -> as.length = vs.length -> as.length = us.length -> as.Nodup -> (∀ c ∈ as, H c = none) ->
  ∃ F', Grow F H F' (fv H as vs us) /\ OwL K F' (fv H as vs us) (o9 dx dy) (as.map V.ref) [] := by
 intro as
 induction as with
 | nil =>
  intro F H dx dy vs us dm ox oy hv hu _ _;cases vs with
  | cons v vs => simp at hv
  | nil =>
   cases dx with
   | nil => exact ⟨F, Grow.refl, by simp only [o9, List.map_nil, OwL]; exact ⟨trivial, trivial⟩⟩
   | cons x dx =>
    simp only [OwL] at ox;obtain ⟨v, ws, L1, L2, e, _⟩ := ox;cases e
 | cons a as ih =>
  intro F H dx dy vs us dm ox oy hv hu hnd hno;cases vs with
  | nil => simp at hv
  | cons v vs =>
   cases us with
   | nil => simp at hu
   | cons u us =>
    cases dx with
    | nil => simp only [OwL] at ox; cases ox.1
    | cons x dx =>
     cases dy with
     | nil => simp only [OwL] at oy; cases oy.1
     | cons y dy =>
      simp only [OwL] at ox oy;obtain ⟨v', vs', L1, L2, e1, ox1, ox2, eL⟩ := ox;obtain ⟨u', us', L3, L4, e2, oy1, oy2, eM⟩ := oy;cases e1; cases e2;obtain ⟨rfl, rfl⟩ := List.append_eq_nil_iff.mp eL.symm;obtain ⟨rfl, rfl⟩ := List.append_eq_nil_iff.mp eM.symm;have ha := hno a (by simp);have gr := nJ (us := [v, u]) dm ha;have nodup := List.nodup_cons.mp hnd;have up : ∀ c ∈ as, ay H a (.tup [v, u]) c = none := fun c hc => by
       rw [aw (show c ≠ a from fun z => nodup.1 (by rw [<- z]; exact hc))];exact hno c (by simp [hc])
      have dm2 : ∀ c, (F c \/ c = a) -> ∃ o, ay H a (.tup [v, u]) c = some o := gr.dm dm;obtain ⟨F', g', o'⟩ := ih dm2 (ox2.mono gr.x fun b hb => by cases hb) (oy2.mono gr.x fun b hb => by cases hb) (by simpa using hv) (by simpa using hu) nodup.2 up;refine ⟨F', gr.trans g', ?_⟩;show OwL K F' (fv (ay H a (.tup [v, u])) as vs us) (.tup [x, y] :: o9 dx dy) (.ref a :: as.map V.ref) [];have fa := g'.x a (.inr rfl);simp only [OwL, Ow];refine ⟨_, _, [], [], rfl, ⟨a, [v, u], rfl, .inl ⟨fa.1, fa.2.trans bG⟩, v, [u], [], [], rfl, (ox1.mono gr.x fun b hb => by cases hb).mono g'.x (fun b hb => by cases hb), ⟨u, [], [], [], rfl, (oy1.mono gr.x fun b hb => by cases hb).mono g'.x (fun b hb => by cases hb), ⟨rfl, rfl⟩, rfl⟩, rfl⟩, o', rfl⟩
section
variable {X : Cx} {a b : Expr} {ca : DA} {p1 p2 pos pos2 : Pos}
theorem vR (hc : X.calm = true) (hg : Gl X "list") (hm : X.mg "list" = none) (hg2 : Gl X "zip") (hm2 : X.mg "zip" = none) (ha : QA X [a, b] ca) (hs : autoParam (starEach [a, b] X.env = [(false, eval a X.env), (false, eval b X.env)]) au._auto_1) (hs2 : autoParam (starEach [b] X.env = [(false, eval b X.env)]) au._auto_1)
  (hs3 : autoParam (starEach [Expr.Call (.Name "zip" p2) [a, b] [] pos2] X.env = [(false, eval (.Call (.Name "zip" p2) [a, b] [] pos2) X.env)]) au._auto_1) :
  QE X (.Call (.Name "list" p1) [.Call (.Name "zip" p2) [a, b] [] pos2] [] pos) (xY ca) := aO (vW hc hg hm hg2 hm2 ha hs hs2 hs3) fun σ H Q hq0 => by
 obtain ⟨F, R, σD, d, σD', r, ec, k⟩ := hq0;unfold xY at ec;rcases h1 : ca σD with _ | ⟨ds, σ1⟩
 ·rw [h1] at ec; cases ec
 ·rw [h1] at ec; simp only [bind_some] at ec
  split at ec
  ·rename_i o1 xs o2 ys
   split at ec
   ·rename_i hl
    cases ec;refine ⟨F, R, σD, _, _, r, h1, fun F1 H1 ws x1 hlw r1 => ?_⟩;obtain ⟨w1, w2, rfl⟩ : ∃ w1 w2, ws = [w1, w2] := by
     match ws, hlw with
     | [a, b], _ => exact ⟨a, b, rfl⟩
    have r1' : Rel X.K F1 H1 _ σ ((.lst o1 xs, w1) :: (.lst o2 ys, w2) :: R) := r1;obtain ⟨F2, x2, r2, ow1⟩ := r1'.freeze;obtain ⟨F3, x3, r3, ow2⟩ := (r2.pop).freeze;have ow1' := ow1.mono x3 (fun b hb => by cases hb);simp only [D.fz, Ow] at ow1' ow2;obtain ⟨a1, vs, rfl, fl1, ol1, _⟩ := ow1';obtain ⟨a2, us, rfl, fl2, ol2, _⟩ := ow2;have lv : vs.length = xs.length := by have := ol1.length; rw [vc] at this; omega
    have lu : us.length = ys.length := by have := ol2.length; rw [vc] at this; omega
    refine ⟨a1, a2, vs, us, rfl, fl1.sq, fl2.sq, by omega, by omega, fun S as hS hSa hal hnd hno => ?_⟩;obtain ⟨F4, g4, ol⟩ := xH (r3.g.dom) ol1 ol2 oM oM hnd hno;have r4 := (r3.pop).grow g4;have hS4 : fv H1 as vs us S = none := by rw [pJ hSa]; exact hS
    obtain ⟨r5, x5⟩ := (Rel.pushL ol r4).layL ol.length.symm hS4;exact k F4 _ _ (x1.trans (x2.trans (x3.trans (g4.x.trans x5)))) r5
   ·cases ec
  ·cases ec
end
end DD
namespace TT
open PySem L2 DD
section
variable {S : Type} {α β : Type} {Γ Γ1 : aA S}
theorem ym {ra : Rl α} {rb : Rl β} : ∀ {as : List α} {bs : List β} {dx dy : List D}, All2 ra as dx -> All2 rb bs dy -> All2 (fm ra rb) (as.zip bs) (o9 dx dy) := by
 intro as
 induction as with
 | nil =>
  intro bs dx dy h1 h2;cases h1;cases dy <;> exact .nil
 | cons a as ih =>
  intro bs dx dy h1 h2;cases h1 with
  | cons h1 h1' =>
   cases h2 with
   | nil => exact .nil
   | cons h2 h2' => exact .cons ⟨_, _, rfl, h1, h2⟩ (ih h1' h2')
theorem Et {rl : Rl (List α)} {ra ra' : Rl α} {rm : Rl (List β)} {rb rb' : Rl β} [l : Ls rl ra] [k : Fz ra ra'] [l2 : Ls rm rb] [k2 : Fz rb rb'] {Γ2 : aA S} {c c' : DE} {f : S -> Option (List α × S)} {g : S -> Option (List β × S)} (h : JE Γ c f rl Γ1) (h' : JE Γ1 c' g rm Γ2) :
  JE Γ (xY (aD c (aD c' bX))) (fun s => (f s).bind fun p => (g p.2).bind fun q => if decide (p.1.length = q.1.length /\ 1 <= p.1.length) = true then some (p.1.zip q.1, q.2) else none) (rL (fm ra' rb')) Γ2 := fun s σ v s' hs e => by
 obtain ⟨⟨a, s1⟩, e1, e⟩ := bd e;obtain ⟨⟨b, s2⟩, e2, e⟩ := bd e;dsimp only at e;split at e
 ·rename_i hl
  have hl2 := of_decide_eq_true hl;cases e;obtain ⟨d, σ1, h1, h2, h3⟩ := h s σ a s1 hs e1;obtain ⟨d', σ2, h4, h5, h6⟩ := h' s1 σ1 b _ h3 e2;obtain ⟨o, ds, rfl, hh⟩ := l.l a d h2;obtain ⟨o', ds', rfl, hh'⟩ := l2.l b d' h5;have n1 := hh.len;have n2 := hh'.len;refine ⟨_, σ2, ?_, ⟨_, rfl, ym (hh.fz k.f) (hh'.fz k2.f)⟩, h6⟩;simp only [xY, aD, bX, h1, h4, bind_some, map_some];rw [if_pos ⟨by omega, by omega⟩]
 ·cases e
end
end TT
namespace L2
open PySem PySem.Spec PyProof.Rows
noncomputable def DV : V -> List V -> Hp -> VK -> Prop := fun x vs H Q => ∃ a b, x = .str a /\ vs = [.str b] /\ Q (.bl (Txt.endswith a b)) H
theorem Bf {X : Cx} : uc X "str.endswith" DV := by
 intro aa s σ H x vs v us Q I rx rv h;obtain ⟨a, b, rfl, rfl, q⟩ := h;obtain ⟨t, rfl⟩ := (show ∃ t, v = Value.str a t from rx);obtain ⟨u, rfl, ru⟩ := rv.one;obtain ⟨t', rfl⟩ := (show ∃ t, u = Value.str b t from ru);exact SC.endswith ⟨.bl _, H, I, rfl, q⟩
noncomputable def Du (x : Str) : It := ⟨fun i _ => ∃ c, x.cps[i]? = some c, fun i H v H' => ∃ p c, x.cps[i]? = some c /\ H p = none /\ H' = ay H p (.tup [.int (i : Int), .str ⟨#[c]⟩]) /\ v = .ref p, fun i _ => x.cps.size = i⟩
theorem vC {P : Program} {w : World} {K : PySem.W.Frag} {elts : List Expr} {x1 : Nat} {tpos : Pos} (x : Str) (t : Tok) (z it : Addr) (D : z ≠ it) :
  mi P w K (.Tuple elts x1 tpos) (Du x) [z, it] z (fun i h => (∃ old, IsEnum h z it (i : Int) old) /\ h.IsStrIter it "str_ascii_iterator" x t i) where
 mem := by simp
 obj := fun i h hq c hc => by
  obtain ⟨⟨old, hz⟩, ⟨o1, e1, c1, d1⟩⟩ := hq;simp only [List.mem_cons, List.not_mem_nil, or_false] at hc;rcases hc with rfl | rfl
  ·exact ⟨_, hz, fun v z => nomatch z⟩
  ·exact ⟨_, e1, fun v z => by rw [d1] at z; cases z⟩
 keep := fun i h h' hq k => by
  obtain ⟨⟨old, hz⟩, o1, e1, r1⟩ := hq;exact ⟨⟨old, k z (by simp) _ hz⟩, o1, k it (by simp) _ e1, r1⟩
 item := by
  intro X hP hw hK hc i aa s σ H E I hf hq hg;obtain ⟨⟨old, hz⟩, h1⟩ := hq;obtain ⟨c, hx⟩ := hg;subst hP hw hK;have hil : i < x.cps.size := (Array.getElem?_eq_some_iff.mp hx).1;refine wpAny_pyNext_enum_itemD (Draws.strAscii (A := X.A.in1) (I.ok.hd hc) it x t) hz h1 hil D (by simp [D]) fun v h' tk hv ho hst hT hsz hk => ?_
  obtain ⟨c', u, hc', rfl⟩ := hv;rw [hx] at hc'; cases hc';have hk' : ∀ b o, b ∉ [z, it] -> s.heap.get? b = some o -> h'.get? b = some o := fun b o hb e => hk b o (fun q => hb (by simp [q])) (fun q => hb (by simp [q])) e
  have I0 : Inv X aa σ (ay H s.heap.objs.size (.tup [.int (i : Int), .str ⟨#[c]⟩])) { s with heap := h' } := I.turnT (fun b hb => hf b hb) (u := .int (i : Int)) (w := .str ⟨#[c]⟩) ⟨tk, rfl⟩ ⟨u, rfl⟩ hk' hT (fun b hb => by
   obtain ⟨o1, e1, _⟩ := id hst;simp only [List.mem_cons, List.not_mem_nil, or_false] at hb;rcases hb with rfl | rfl
   ·exact ⟨_, ho⟩
   ·exact ⟨_, e1⟩)
  have I1 : Inv X aa σ (ay H s.heap.objs.size (.tup [.int (i : Int), .str ⟨#[c]⟩])) { s with heap := h', toks := tk + 1 } := I0.kept (t' := tk + 1) (fun _ _ e => e);have hfr : H s.heap.objs.size = none := I.fresh;refine ⟨_, rfl, wpAny_letOwnedTupleGo_enum (s := { s with heap := h', toks := tk + 1 }) ho fun h'' z1 sb => ?_⟩;have hf5 : ∀ b ∈ [z, it], (ay H s.heap.objs.size (.tup [.int (i : Int), .str ⟨#[c]⟩])) b = none := fun b hb => by
   have lt : b < s.heap.objs.size := by
    obtain ⟨o1, e1, _⟩ := id h1;simp only [List.mem_cons, List.not_mem_nil, or_false] at hb;rcases hb with rfl | rfl
    ·exact Heap.lt_size hz
    ·exact Heap.lt_size e1
   rw [aw (Nat.ne_of_lt lt)]; exact (hf b hb).1
  have I2 : Inv X aa σ (ay H s.heap.objs.size (.tup [.int (i : Int), .str ⟨#[c]⟩])) { s with heap := h'', toks := tk + 1 } := Inv.turnN (s := { s with heap := h', toks := tk + 1 }) (ch := [z]) I1 (fun b hb => by
   have : b = z := by simpa using hb
   subst this;exact ⟨hf5 b (by simp), (hf b (by simp)).2⟩) (fun b o hb e => (sb.2 b (fun q => hb (by simp [q]))).trans e)
  refine ⟨.ref s.heap.objs.size, _, I2, rfl, ⟨_, c, hx, hfr, rfl, rfl⟩, ⟨⟨_, by rw [show ((i + 1 : Nat) : Int) = (i : Int) + 1 by omega]; exact z1⟩, ?_⟩, hf5⟩;obtain ⟨o1, e1, r1⟩ := id hst;exact ⟨o1, (sb.2 it D.symm).trans e1, r1⟩
 done := by
  intro X hP hw hK hc i aa s σ H E I hf hq hg;obtain ⟨⟨old, hz⟩, h1⟩ := hq;subst hP hw hK;have hg' : x.cps.size = i := hg;subst hg';refine wpAny_pyNext_enum_endD (Draws.strAscii (A := X.A.in1) (I.ok.hd hc) it x t) hz h1 fun h' hk => ⟨rfl, ?_⟩
  exact I.turnN (ch := [z, it]) (fun b hb => hf b hb) fun b o hb e => hk b o (fun q => hb (by simp [q])) e
 self := fun _ _ _ _ _ hq h => by
  obtain ⟨⟨_, hz⟩, _⟩ := hq;exact wpAny_pyIter_enum hz h
section
variable {X : Cx}
theorem qz {x : Str} (h : x.cps.all (· < 128) = true) : strIterType x = "str_ascii_iterator" := by
 unfold strIterType; rw [if_pos h]
noncomputable def C5 (tl : TA) : TI := fun σ H R => tl σ H fun vs H1 => ∃ x : Str, vs = [.str x] /\ x.cps.all (· < 128) = true /\ R (Du x) H1
theorem vU {elts : List Expr} {x1 : Nat} {tpos : Pos} {a : Expr} {ta : TA} {p pos : Pos} (hg : Gl X "enumerate") (hm : X.mg "enumerate" = none) (ha : PA X [a] ta) (hs : autoParam (starEach [a] X.env = [(false, eval a X.env)]) au._auto_1) :
  PI X (.Tuple elts x1 tpos) (.Call (.Name "enumerate" p) [a] [] pos) (C5 ta) := by
 intro aa s σ H R I h;refine Call_ (fu I hg hm me (PyProof.Rows.callWith_type1 (bq (ha pos aa s σ H _ I h) fun us s1 hq0 => ?_) (by rw [hs]; rfl) (by rfl)));obtain ⟨vs, H1, I1, r1, x, e, hx, q⟩ := hq0;subst e;obtain ⟨u, rfl, ru⟩ := r1.one;obtain ⟨t, rfl⟩ := (show ∃ t, u = Value.str x t from ru);refine call_enumerate_str fun h' he hi hsz hk => ?_
 rw [qz hx] at hi;refine wpAny_pyIter_enum (s := { s1 with heap := h' }) he ?_;have I2 : Inv X aa σ H1 { s1 with heap := h', toks := s1.toks } := I1.kept (t' := s1.toks) hk;refine ⟨_, [s1.heap.objs.size + 1, s1.heap.objs.size], _, _, H1, rfl, I2, vC x t (s1.heap.objs.size + 1) s1.heap.objs.size (Nat.ne_of_gt (Nat.lt_succ_self _)), ⟨⟨_, by simpa using he⟩, hi⟩, fun c hc => ?_, q⟩;have hle : s1.heap.objs.size <= c := by
  simp only [List.mem_cons, List.not_mem_nil, or_false] at hc;rcases hc with rfl | rfl
  ·exact Nat.le_succ _
  ·exact Nat.le_refl _
 obtain ⟨f0, f1, f2, f3, f4, f5⟩ := I1.fpOk hle (I1.hok.fresh hle);exact ⟨f0, f1, f2, f3, f4, f5⟩
end
end L2
namespace DD
open PySem PySem.Spec PyProof.Rows L2
noncomputable def oE (c c' : DE) : DE := fun σ => (c σ).bind fun p => (c' p.2).bind fun q => match p.1, q.1 with
 | .str a, .str b => some (.bl (Txt.endswith a b), q.2)
 | _, _ => none
noncomputable def oq (c : DE) : DI := fun σ => (c σ).bind fun p => match p.1 with
 | .str x => if x.cps.all (· < 128) = true then some (kl 0 ((signs x).map D.str), p.2) else none
 | _ => none
theorem xQ {K : PySem.W.Frag} {F : Addr -> Prop} {H : Hp} {x : Str} : ni K (Du x) (kl 0 ((signs x).map D.str)) F H where
 item := fun i d F1 H1 x1 dm e => by
  rw [pT] at e;unfold signs at e;rw [List.map_map, List.getElem?_map, Array.getElem?_toList] at e;rcases h : x.cps[i]? with _ | c
  ·rw [h] at e; cases e
  ·rw [h] at e; cases e
   refine ⟨⟨c, h⟩, fun v H2 hq => ?_⟩;obtain ⟨p, c', h', hp, rfl, rfl⟩ := hq;rw [h] at h'; cases h';have gr := nJ (us := [.int (i : Int), .str ⟨#[c]⟩]) dm hp;refine ⟨_, gr, ?_⟩;rw [Nat.zero_add];simp only [Ow, OwL];exact ⟨p, [.int (i : Int), .str ⟨#[c]⟩], rfl, .inl ⟨.inr rfl, bG⟩, .int (i : Int), [.str ⟨#[c]⟩], [], [], rfl, ⟨rfl, rfl⟩, ⟨.str ⟨#[c]⟩, [], [], [], rfl, ⟨rfl, rfl⟩, ⟨rfl, rfl⟩, rfl⟩, rfl⟩
 done := fun F1 H1 _ => by
  show x.cps.size = (kl 0 ((signs x).map D.str)).length;rw [pS, List.length_map];unfold signs;simp
section
variable {X : Cx} {a : Expr} {c : DE} {p1 pos1 tpos : Pos} {elts : List Expr} {x1 : Nat}
theorem vQ (hgl : Gl X "enumerate") (hm : X.mg "enumerate" = none) (ha : QE X a c) (hs : autoParam (starEach [a] X.env = [(false, eval a X.env)]) au._auto_1) :
  QI X (.Tuple elts x1 tpos) (.Call (.Name "enumerate" p1) [a] [] pos1) (oq c) := iA (vU hgl hm (cE ha dQ hs) hs) fun σ H R hq0 => by
 obtain ⟨F, Ro, σD, xs, σD', r, ec, k⟩ := hq0;unfold oq at ec;rcases h : c σD with _ | ⟨d, σ1⟩
 ·rw [h] at ec; cases ec
 ·rw [h] at ec; simp only [bind_some] at ec
  refine ⟨F, Ro, σD, d, σ1, r, h, fun F1 H1 v x1 r1 => ?_⟩;split at ec
  ·rename_i x
   split at ec
   ·rename_i hx
    cases ec;have bv := (r1.bor (d := .str x) (v := v) (by simp)).str;subst bv;exact ⟨x, rfl, hx, k F1 H1 _ x1 r1.pop xQ⟩
   ·cases ec
  ·cases ec
end
section
variable {X : Cx} {o e : Expr} {c c' : DE} {apos cpos : Pos}
theorem AQ (ho : QE X o c) (ha : QE X e c') (hbase : autoParam (attributeBase o "endswith" X.env (eval o X.env) = eval o X.env) au._auto_1)
  (hfew : autoParam (((backTo cpos (starEach [e] X.env)).all (fun x => !x.1) && (backToKw cpos (keywordEach [] X.env)).all (fun x => x.1.isSome) && decide (([e] : List Expr).length + ([] : List Keyword).length + (if ([] : List Keyword).isEmpty then 0 else 1) < 30)) = true) au._auto_1)
  (hline : autoParam ((apos.endLine == cpos.line) = true) au._auto_1) (hst : autoParam (starEach [e] X.env = (false, eval e X.env) :: starEach [] X.env) au._auto_1) : QE X (.Call (.Attribute o "endswith" apos) [e] [] cpos) (oE c c') :=
 aO (mF PySem.F.plainAttrs_str PySem.F.slot_str_endswith PySem.F.type_str_endswith Bf ho (cE ha dQ hst) hbase hfew hline hst rfl) fun σ H Q hq0 => by
  obtain ⟨F, R, σD, d, σD', r, ec, k⟩ := hq0;unfold oE at ec;rcases h1 : c σD with _ | ⟨x, σ1⟩
  ·rw [h1] at ec; cases ec
  ·rw [h1] at ec; simp only [bind_some] at ec
   rcases h2 : c' σ1 with _ | ⟨y, σ2⟩
   ·rw [h2] at ec; cases ec
   ·rw [h2] at ec; simp only [bind_some] at ec
    split at ec
    ·rename_i a b
     cases ec;refine ⟨F, R, σD, _, σ1, r, h1, fun F1 H1 v x1 r1 => ?_⟩;have bv := (r1.bor (d := .str a) (v := v) (by simp)).str;subst bv;refine ⟨rfl, F1, _, σ1, _, _, r1, h2, fun F2 H2 u x2 r2 => ?_⟩;have bu := (r2.bor (d := .str b) (v := u) (by simp)).str;subst bu;exact ⟨a, b, rfl, rfl, k F2 H2 _ (x1.trans x2) ((r2.pop).pop.scal rfl)⟩
    ·cases ec
end
end DD
namespace TT
open PySem L2 DD PySem.W
section
variable {S : Type} {Γ Γ1 Γ2 : aA S} {c c' : DE}
theorem Bp {f g : S -> Option (Str × S)} (h : JE Γ c f rS Γ1) (h' : JE Γ1 c' g rS Γ2) : JE Γ (oE c c') (fun s => (f s).bind fun p => (g p.2).map fun q => (Txt.endswith p.1 q.1, q.2)) rB Γ2 := fun s σ v s' hs e => by
 obtain ⟨⟨a, s1⟩, e1, e⟩ := bd e;obtain ⟨⟨b, s2⟩, e2, e⟩ := mp e;cases e;obtain ⟨d, σ1, h1, h2, h3⟩ := h s σ a s1 hs e1;obtain ⟨d', σ2, h4, h5, h6⟩ := h' s1 σ1 b s2 h3 e2;cases h2; cases h5;exact ⟨_, σ2, by simp only [oE, h1, h4, bind_some], rfl, h6⟩
theorem v9 {f : S -> Option (Str × S)} (h : JE Γ c f rS Γ1) : JI Γ (oq c) (fun s => (f s).bind fun p => if p.1.cps.all (· < 128) = true then some (bC 0 (signs p.1), p.2) else none) (fm rI rS) Γ1 := fun s σ v s' hs e => by
 obtain ⟨⟨a, s1⟩, e1, e⟩ := bd e;dsimp only at e;split at e
 ·rename_i ha
  cases e;obtain ⟨d, σ1, h1, h2, h3⟩ := h s σ a _ hs e1;cases h2;exact ⟨_, σ1, by simp only [oq, h1, bind_some, ha, if_true], pY 0 (mf _), h3⟩
 ·cases e
theorem Bq (i : Nat) {α : Type} {get : S -> List (List α)} {put : S -> List (List α) -> S} {r : Rl α} [k : Sc r] {p q : DP} {f : S -> Option α} {fq : S -> Option Int} (h : JP Γ p f r) (hq : JP Γ q fq rI) (hi : Γ[i]? = some (some ⟨get, rL (rL r)⟩)) (hg : autoParam (∀ s v, get (put s v) = v) jP._auto_1) (hf : autoParam (∀ v, Fr (fun s => put s v) (Γ.set i none)) j3._auto_1) :
  JE Γ (tR i [q] p) (fun s => (fq s).bind fun j => (L2.ixN (get s).length j).bind fun m => ((get s)[m]?).bind fun x => (f s).bind fun v => if zT (x.length) = true then some ((), put s ((get s).set m (x ++ [v]))) else none) rN (Γ.set i (some ⟨get, rL (rL r)⟩)) := fun s σ v s' hs e => by
 obtain ⟨j, e1, e⟩ := bd e;obtain ⟨m, e2, e⟩ := bd e;obtain ⟨x, e3, e⟩ := bd e;obtain ⟨a, e4, e⟩ := bd e;split at e
 ·rename_i hl
  have hl := xD hl;cases e;obtain ⟨d, hd, ds, rfl, h2⟩ := hs.get hi;obtain ⟨dq, hdq, rq⟩ := hq s σ j hs e1;cases rq;obtain ⟨da, hda, rda⟩ := h s σ a hs e4;obtain ⟨w, hw⟩ := k.s _ _ rda;have hlen := h2.len;obtain ⟨dx, hdx, dxs, rfl, h3⟩ := h2.get e3;have hle := h3.len;rw [hlen] at e2;refine ⟨.non, _, ?_, rfl, hs.put hg hf ⟨ds.set m (.lst true (dxs ++ [da])), rfl, h2.set ⟨_, rfl, h3.append (.cons rda .nil)⟩⟩⟩;simp only [tR, hd, bind_some, gz, hdq, map_some, cF, L2.atI, e2, hdx, hda, hw, dO];rw [if_pos (by rw [<- hle]; exact hl)]
 ·cases e
end
end TT
namespace TT
open PySem L2 DD
section
variable {S : Type} {α β γ : Type} {Γ : aA S}
theorem xN (i : Nat) {get : S -> List α × β × γ} {put : S -> List α × β × γ -> S} {r : Rl α} {q : Rl β} {t : Rl γ} (hi : Γ[i]? = some (some ⟨get, du (rL r) q t⟩)) (hg : autoParam (∀ s v, get (put s v) = v) jP._auto_1) (hf : autoParam (∀ v, Fr (fun s => put s v) (Γ.set i none)) j3._auto_1) :
  JE Γ (oF i [pC (.int 0)]) (fun s => some ((), put s ([], (get s).2))) rN (Γ.set i (some ⟨get, du (rL r) q t⟩)) := fun s σ v s' hs e => by
 cases e;obtain ⟨d, hd, x, y, z, rfl, ⟨ds, rfl, hx⟩, hy, hz⟩ := hs.get hi;refine ⟨.non, σ.set i (some (.tup [.lst true [], y, z])), ?_, rfl, hs.put hg hf ⟨.lst true [], y, z, rfl, ⟨_, rfl, .nil⟩, hy, hz⟩⟩;have b1 : atI [D.lst true ds, y, z] 0 = some (D.lst true ds) := rfl;have j1 : ixN [D.lst true ds, y, z].length 0 = some 0 := rfl;simp only [oF, hd, bind_some, gz, pC, map_some, cF, b1, dO, j1, List.getElem?_cons_zero, List.set_cons_zero]
end
end TT
namespace TX
open PySem PySem.StrLaws PySem.Builtin.Str
noncomputable def Gap (w : Nat) : Nat -> List Nat -> Prop
 | _, [] => True
 | f, c :: r => f <= c /\ Gap w (c + w) r
theorem Gap.ge {w : Nat} : ∀ {T : List Nat} {f : Nat}, Gap w f T -> ∀ c ∈ T, f <= c := by
 intro T
 induction T with
 | nil => intro f _ c hc; cases hc
 | cons a T ih =>
  intro f h c hc;rcases List.mem_cons.mp hc with rfl | hc
  ·exact h.1
  ·have := ih h.2 c hc
   have := h.1
   omega
theorem xA {s sub : Str} {hi limit : Nat} (hw : 1 <= sub.length) : ∀ (n lo : Nat) (st : Array Nat × Nat) (T : List Nat), Gap sub.length st.2 T -> (∀ c ∈ T, lo <= c /\ c < lo + n) -> (∀ i, lo <= i -> i < lo + n -> (At s sub hi i ↔ i ∈ T)) -> st.1.size + T.length <= limit ->
  (forIn (List.range' lo n) st (occBody s sub hi limit)).run.fst.toList = st.1.toList ++ T := by
 intro n
 induction n with
 | zero =>
  intro lo st T _ hb _ _;cases T with
  | nil => simp
  | cons c T => have := hb c (by simp); omega
 | succ n ih =>
  intro lo st T hg hb ha hl;rw [List.range'_succ, List.forIn_cons];unfold occBody;by_cases hm : lo ∈ T
  ·have hA := (ha lo (Nat.le_refl _) oM).mpr hm
   cases T with
   | nil => cases hm
   | cons c T =>
    have hc : c = lo := by
     rcases List.mem_cons.mp hm with h | h
     ·exact h.symm
     ·have h1 := hg.2.ge lo h
      have h2 := hb c (by simp);omega
    subst hc;rw [if_pos ⟨⟨⟨by simp only [List.length_cons] at hl; omega, hg.1⟩, hA.1⟩, hA.2⟩];refine (ih (c + 1) (st.1.push c, c + sub.length) T hg.2 (fun d hd => ?_) (fun i h1 h2 => ?_) (by simp only [Array.size_push, List.length_cons] at hl ⊢; omega)).trans ?_
    ·have h1 := hg.2.ge d hd
     have h2 := hb d (by simp [hd]);omega
    ·rw [ha i oM oM]
     constructor
     ·intro h
      rcases List.mem_cons.mp h with h | h
      ·omega
      ·exact h
     ·intro h; simp [h]
    ·simp
  ·have hA : ¬ At s sub hi lo := fun h => hm ((ha lo (Nat.le_refl _) oM).mp h)
   rw [if_neg (fun h => hA ⟨h.1.2, h.2⟩)];refine ih (lo + 1) st T hg (fun d hd => ?_) (fun i h1 h2 => ha i oM oM) hl;have h2 := hb d hd;have h3 : d ≠ lo := fun e => hm (e ▸ hd)
   omega
noncomputable def cA (Y : List Nat) : List (List Nat) -> List Nat
 | [] => []
 | [p] => p
 | p :: q :: r => p ++ (Y ++ cA Y (q :: r))
noncomputable def lV (w : Nat) : Nat -> List (List Nat) -> List Nat
 | _, [] => []
 | _, [_] => []
 | a, p :: q :: r => (a + p.length) :: lV w (a + p.length + w) (q :: r)
theorem zu (w : Nat) : ∀ (ps : List (List Nat)) (a : Nat), Gap w a (lV w a ps) := by
 intro ps
 induction ps with
 | nil => intro a; trivial
 | cons p ps ih =>
  intro a;cases ps with
  | nil => trivial
  | cons q r => exact ⟨Nat.le_add_right _ _, ih _⟩
theorem lR {L p Y R : List Nat} {a : Nat} (h : L.drop a = p ++ (Y ++ R)) : L.drop (a + p.length) = Y ++ R /\ L.drop (a + p.length + Y.length) = R := by
 have h1 : L.drop (a + p.length) = Y ++ R := by rw [<- List.drop_drop, h, List.drop_left]
 exact ⟨h1, by rw [<- List.drop_drop, h1, List.drop_left]⟩
theorem BD {L Y : List Nat} : ∀ (ps : List (List Nat)) (a : Nat), L.drop a = cA Y ps -> ∀ c ∈ lV Y.length a ps, (L.drop c).take Y.length = Y /\ c + Y.length <= L.length + (if Y = [] then c else 0) := by
 intro ps
 induction ps with
 | nil => intro a _ c hc; cases hc
 | cons p ps ih =>
  intro a h c hc;cases ps with
  | nil => cases hc
  | cons q r =>
   obtain ⟨h1, h2⟩ := lR (p := p) (Y := Y) (R := cA Y (q :: r)) h;rcases List.mem_cons.mp hc with rfl | hc
   ·refine ⟨by rw [h1, List.take_left], ?_⟩
    by_cases hY : Y = []
    ·simp [hY]
    ·have h3 := congrArg List.length h1
     rw [List.length_drop, List.length_append] at h3;have h4 : 0 < Y.length := List.length_pos_iff.mpr hY;omega
   ·exact ih _ h2 c hc
theorem xZ {L Y : List Nat} {m off : Nat} (hY : ∀ k, Y[k]? = some m -> k = off) : ∀ (ps : List (List Nat)) (a : Nat), L.drop a = cA Y ps -> (∀ p ∈ ps, m ∉ p) -> ∀ j, a <= j -> L[j]? = some m -> ∃ c ∈ lV Y.length a ps, j = c + off := by
 intro ps
 induction ps with
 | nil =>
  intro a h _ j hj e;have : (L.drop a)[j - a]? = some m := by rw [List.getElem?_drop, Nat.add_sub_cancel' hj]; exact e
  rw [h] at this;simp [cA] at this
 | cons p ps ih =>
  intro a h hf j hj e;have hm : (L.drop a)[j - a]? = some m := by rw [List.getElem?_drop, Nat.add_sub_cancel' hj]; exact e
  cases ps with
  | nil =>
   rw [h] at hm;exact absurd (List.mem_of_getElem? hm) (hf p (by simp))
  | cons q r =>
   have h' : L.drop a = p ++ (Y ++ cA Y (q :: r)) := h;obtain ⟨h1, h2⟩ := lR h';by_cases hp : j - a < p.length
   ·rw [h', List.getElem?_append_left hp] at hm
    exact absurd (List.mem_of_getElem? hm) (hf p (by simp))
   ·by_cases hy : j - a < p.length + Y.length
    ·rw [h', List.getElem?_append_right oM, List.getElem?_append_left oM] at hm
     have := hY _ hm
     exact ⟨a + p.length, by simp [lV], by omega⟩
    ·obtain ⟨c, hc, ej⟩ := ih _ h2 (fun x hx => hf x (List.mem_cons_of_mem _ hx)) j oM e
     exact ⟨c, List.mem_cons_of_mem _ hc, ej⟩
theorem zt {w n : Nat} (hw : 1 <= w) : ∀ {T : List Nat} {f : Nat}, Gap w f T -> (∀ c ∈ T, c + w <= n) -> T.length <= n - f := by
 intro T
 induction T with
 | nil => intro f _ _; simp
 | cons c T ih =>
  intro f hg hb;have h1 := ih hg.2 fun d hd => hb d (by simp [hd])
  have h2 := hb c (by simp);have h3 := hg.1;simp only [List.length_cons];omega
theorem yT {x : Str} {Y : List Nat} : ∀ (ps : List Str) (a : Nat), ps ≠ [] -> x.cps.toList.drop a = cA Y (ps.map fun p => p.cps.toList) -> partsFrom x Y.length a (lV Y.length a (ps.map fun p => p.cps.toList)) = ps := by
 intro ps
 induction ps with
 | nil => intro a h _; exact absurd rfl h
 | cons p ps ih =>
  intro a _ h;have ext : ∀ {u v : Str}, u.cps.toList = v.cps.toList -> u = v := fun e => Str.ext' (Array.toList_inj.mp e)
  cases ps with
  | nil =>
   have h' : x.cps.toList.drop a = p.cps.toList := h;show [strSub x a x.length] = [p];congr 1;apply ext;rw [strSub_toList, h'];apply List.take_of_length_le;rw [<- h', List.length_drop];show x.cps.toList.length - a <= x.cps.size - a;simp
  | cons q r =>
   have h' : x.cps.toList.drop a = p.cps.toList ++ (Y ++ cA Y ((q :: r).map fun p => p.cps.toList)) := h;obtain ⟨h1, h2⟩ := lR h';show strSub x a (a + p.cps.toList.length) :: partsFrom x Y.length (a + p.cps.toList.length + Y.length) (lV Y.length (a + p.cps.toList.length + Y.length) ((q :: r).map fun p => p.cps.toList)) = p :: q :: r;rw [ih _ (by simp) h2];congr 1;apply ext;rw [strSub_toList, h', Nat.add_sub_cancel_left, List.take_left]
theorem jI {y : Str} : ∀ ps : List Str, (Str.join y ps).cps.toList = cA y.cps.toList (ps.map fun p => p.cps.toList) := by
 intro ps
 induction ps with
 | nil => rfl
 | cons p ps ih =>
  cases ps with
  | nil => rfl
  | cons q r =>
   show (p ++ y ++ Str.join y (q :: r)).cps.toList = p.cps.toList ++ (y.cps.toList ++ cA y.cps.toList ((q :: r).map fun p => p.cps.toList));rw [<- ih];simp [Str.cps_append]
theorem nS {y : Str} {m off : Nat} (hw : 1 <= y.length) (hm : y.cps.toList[off]? = some m) (hY : ∀ k, y.cps.toList[k]? = some m -> k = off) (hk : PySem.Builtin.Str.strKind y = 1) {ps : List Str} (hne : ps ≠ []) (hf : ∀ p ∈ ps, m ∉ p.cps.toList) :
  Txt.split (Txt.join y ps) y = ps := by
 have ej : Txt.join y ps = Str.join y ps := glued_eq_join y ps;rw [ej];generalize hx : Str.join y ps = x;have hL : x.cps.toList = cA y.cps.toList (ps.map fun p => p.cps.toList) := by rw [<- hx]; exact jI ps
 have hyl : y.cps.toList.length = y.length := by simp [Str.length]
 have hxl : x.cps.toList.length = x.length := by simp [Str.length]
 have hY0 : y.cps.toList ≠ [] := fun e => by rw [e] at hyl; simp at hyl; omega
 have h0 : x.cps.toList.drop 0 = cA y.cps.toList (ps.map fun p => p.cps.toList) := hL;have hg := zu y.cps.toList.length (ps.map fun p => p.cps.toList) 0;have hat := BD (ps.map fun p => p.cps.toList) 0 h0;have hmk := xZ hY (ps.map fun p => p.cps.toList) 0 h0 (fun p hp => by
  obtain ⟨q, hq, rfl⟩ := List.mem_map.mp hp;exact hf q hq)
 have hpt := yT ps 0 hne h0;generalize hT : lV y.cps.toList.length 0 (ps.map fun p => p.cps.toList) = T at hg hat hmk hpt;rw [hyl] at hg hat hpt;have hb : ∀ c ∈ T, c + y.length <= x.length := fun c hc => by
  have := (hat c hc).2
  rw [if_neg hY0, hxl] at this;omega
 have hiff : ∀ i, (At x y x.length i ↔ i ∈ T) := fun i => by
  constructor
  ·intro h
   have h2 := h.2;rw [subAt_eq] at h2;have h3 := eq_of_beq h2;have h4 : x.cps.toList[i + off]? = some m := by
    have h5 : ((x.cps.toList.drop i).take y.length)[off]? = some m := by rw [h3]; exact hm
    rw [List.getElem?_take] at h5;split at h5
    ·rw [List.getElem?_drop] at h5; exact h5
    ·cases h5
   obtain ⟨c, hc, e⟩ := hmk (i + off) (Nat.zero_le _) h4;have : i = c := by omega
   rw [this]; exact hc
  ·intro h
   exact ⟨hb i h, by rw [subAt_eq, (hat i h).1]; simp⟩
 have hocc : occurrences x y 0 x.length (x.length + 1) = T := by
  rw [occ_eq]
  have := xA (s := x) (sub := y) (hi := x.length) (limit := x.length + 1) hw (x.length + 1 - 0) 0 (#[], 0) T hg (fun c hc => by have := hb c hc; omega) (fun i _ _ => hiff i) (by have := zt hw hg hb; simp; omega)
  simpa using this
 have one : T = [] -> [x] = ps := fun e => by
  rw [e] at hpt;rw [<- hpt];show [x] = [strSub x 0 x.length];rw [sub_whole]
 unfold Txt.split;split
 ·rename_i hc
  apply one;cases T with
  | nil => rfl
  | cons c T =>
   have h1 := hb c (by simp);have h2 : 1 <= PySem.Builtin.Str.strKind x := by unfold PySem.Builtin.Str.strKind; split; omega; split <;> omega
   rw [hk] at hc;simp only [Bool.or_eq_true, decide_eq_true_eq] at hc;omega
 ·rw [hocc]
  split
  ·rename_i he
   exact one (List.isEmpty_iff.mp he)
  ·rw [partsBetween_eq]
   exact hpt
theorem jn (y : Str) (ps : List Str) : Txt.join y ps = Str.join y ps := glued_eq_join y ps
theorem xK {Y : List Nat} {c : Nat} : ∀ {ps : List (List Nat)}, c ∈ cA Y ps -> c ∈ Y \/ ∃ p ∈ ps, c ∈ p := by
 intro ps
 induction ps with
 | nil => intro h; cases h
 | cons p ps ih =>
  intro h;cases ps with
  | nil => exact .inr ⟨p, by simp, h⟩
  | cons q r =>
   have h' : c ∈ p ++ (Y ++ cA Y (q :: r)) := h;rcases List.mem_append.mp h' with h' | h'
   ·exact .inr ⟨p, by simp, h'⟩
   ·rcases List.mem_append.mp h' with h' | h'
    ·exact .inl h'
    ·rcases ih h' with h2 | ⟨x, hx, h2⟩
     ·exact .inl h2
     ·exact .inr ⟨x, List.mem_cons_of_mem _ hx, h2⟩
theorem xL {Y : List Nat} {b : Nat} : ∀ {ps : List (List Nat)}, (∀ p ∈ ps, p.length <= b) -> (cA Y ps).length <= ps.length * (b + Y.length) := by
 intro ps
 induction ps with
 | nil => intro _; simp [cA]
 | cons p ps ih =>
  intro h;have hp := h p (by simp);cases ps with
  | nil => show p.length <= 1 * (b + Y.length); omega
  | cons q r =>
   have h2 := ih fun x hx => h x (List.mem_cons_of_mem _ hx)
   show (p ++ (Y ++ cA Y (q :: r))).length <= ((q :: r).length + 1) * (b + Y.length);rw [List.length_append, List.length_append, Nat.succ_mul];omega
theorem sV {y : Str} {ps : List Str} {c : Nat} (h : c ∈ (Txt.join y ps).cps.toList) : c ∈ y.cps.toList \/ ∃ p ∈ ps, c ∈ p.cps.toList := by
 rw [jn, jI] at h;rcases xK h with h | ⟨p, hp, h⟩
 ·exact .inl h
 ·obtain ⟨q, hq, rfl⟩ := List.mem_map.mp hp
  exact .inr ⟨q, hq, h⟩
theorem bc {x : Str} : x.length = x.cps.toList.length := by simp [Str.length]
theorem sW {y : Str} {ps : List Str} {b : Nat} (h : ∀ p ∈ ps, p.length <= b) : (Txt.join y ps).length <= ps.length * (b + y.length) := by
 rw [bc, jn, jI]
 have := xL (Y := y.cps.toList) (b := b) (ps := ps.map fun p => p.cps.toList) (fun p hp => by
  obtain ⟨q, hq, rfl⟩ := List.mem_map.mp hp;rw [<- bc]; exact h q hq)
 rw [List.length_map, <- bc] at this;exact this
theorem BS {ps : List Str} {b : Nat} : (∀ p ∈ ps, p.length <= b) -> (ps.map (·.length)).sum <= ps.length * b := by
 induction ps with
 | nil => intro _; simp
 | cons p ps ih =>
  intro h;have h1 := ih fun x hx => h x (List.mem_cons_of_mem _ hx)
  have h2 := h p (by simp);rw [List.map_cons, List.sum_cons, List.length_cons, Nat.succ_mul];omega
theorem uV {x : Str} : Str.empty ++ x = x := by
 apply Str.ext';rw [Str.cps_append];apply Array.toList_inj.mp;rw [Array.toList_append]; rfl
theorem i3 {x y : Str} {c : Nat} (h : c ∈ (x ++ y).cps.toList) : c ∈ x.cps.toList \/ c ∈ y.cps.toList := by
 rw [Str.cps_append, Array.toList_append] at h;exact List.mem_append.mp h
theorem aU {x y : Str} : (x ++ y).length = x.length + y.length := by
 rw [bc, bc, bc, Str.cps_append, Array.toList_append, List.length_append]
theorem kF {x : Str} {k : Nat} (h : k <= x.length) : (Txt.slice x (some (k : Int)) none).cps.toList = x.cps.toList.drop k := by
 rw [PyProof.Rows.slice_from_eq (b := (x.length : Int)) oM oM rfl];show ((x.cps.toList.drop ((k : Int).toNat)).take ((x.length : Int) - (k : Int)).toNat) = _;rw [Int.toNat_natCast];apply List.take_of_length_le;rw [List.length_drop, <- bc];omega
theorem kE {x y : Str} {c : Nat} (hy : y.cps.toList = [c]) : Txt.startswith x y = (match x.cps.toList with | [] => false | d :: _ => d == c) := by
 unfold Txt.startswith;rw [subAt_eq];have hl : y.length = 1 := by rw [bc, hy]; rfl
 rw [hl, hy];rcases hx : x.cps.toList with _ | ⟨d, r⟩
 ·have : x.length = 0 := by rw [bc, hx]; rfl
  rw [this]; rfl
 ·have : x.length = r.length + 1 := by rw [bc, hx]; rfl
  rw [this];simp
theorem ext' {u v : Str} (e : u.cps.toList = v.cps.toList) : u = v := Str.ext' (Array.toList_inj.mp e)
theorem aS {x y : Str} : (x ++ y).cps.toList = x.cps.toList ++ y.cps.toList := by rw [Str.cps_append, Array.toList_append]
theorem gu {y : Str} {ps : List Str} : (Txt.join y ps).cps.toList = cA y.cps.toList (ps.map fun p => p.cps.toList) := by rw [jn, jI]
noncomputable def cf (n : Int) : Str := Str.ofString (toString n)
theorem gy (m : Nat) : (cf (m : Int)).cps.toList = (Nat.toDigits 10 m).map Char.toNat := PySem.W.KIN.signs_num m
theorem eU (m : Nat) : PySem.NumText.AllDigits (cf (m : Int)).cps.toList := by
 intro c hc;rw [gy] at hc;obtain ⟨ch, hch, e⟩ := List.mem_map.mp hc;have r := PyProof.Rows.digit_range (Nat.isDigit_of_mem_toDigits dC dC hch);rw [<- e];exact r
theorem sM (m : Nat) : (cf (m : Int)).cps.toList ≠ [] := by
 rw [gy];intro e;have h := PySem.toDigits_len_ge 10 m;rw [List.map_eq_nil_iff.mp e] at h;exact absurd h dC
theorem gx {m : Nat} (h : m < 10 ^ 40) : (cf (m : Int)).length <= 40 := by
 rw [bc, gy, List.length_map];exact PySem.toDigits_len_pow dC dC h
theorem y0 {m : Nat} (h : m < 10 ^ 40) : PySem.intText? (cf (m : Int)) = some (m : Int) := by
 have e := PySem.intText_digits (eU m) (sM m) (Nat.le_trans (gx h) dC);rw [gy, PySem.W.KIN.val_back] at e;exact e
theorem kK {m : Nat} (h : 1 <= m) : ∃ c r, (cf (m : Int)).cps.toList = c :: r /\ 49 <= c /\ c <= 57 := by
 rcases hx : (cf (m : Int)).cps.toList with _ | ⟨c, r⟩
 ·exact absurd hx (sM m)
 ·have hd := eU m
  rw [hx] at hd;have hc := hd.head;refine ⟨c, r, rfl, ?_, hc.2⟩;by_cases h0 : c = 48
  ·exfalso
   subst h0;have hv : PySem.NumText.digitsVal (48 :: r) = m := by rw [<- hx, gy]; exact PySem.W.KIN.val_back m
   have ha := PySem.NumText.toDigits_all (48 :: r) hd;rw [hv] at ha;have hlen : (Nat.toDigits 10 m).length = r.length + 1 := by
    have := congrArg List.length hx
    rw [gy, List.length_map] at this;exact this
   rw [List.dropWhile_cons] at ha;simp only [BEq.rfl, if_true] at ha;have hdl := PySem.NumText.len_dropWhile (· == 48) r;rcases hr : r.dropWhile (· == 48) with _ | ⟨c', r'⟩
   ·rw [hr] at ha
    have hr0 : r.length = 0 := by
     rw [ha] at hlen;simp at hlen;rw [hlen]; rfl
    have : r = [] := List.length_eq_zero_iff.mp hr0;subst this;have : PySem.NumText.digitsVal [48] = 0 := by decide
    omega
   ·rw [hr] at ha hdl
    rw [ha] at hlen;simp only [List.length_map] at hlen;omega
  ·omega
end TX
namespace LW
open PySem L2 DD
noncomputable def dn (i : Nat) : Stmt := PySem.Challenge.pw_telltight_k74_sayings_as_texts.main.body.getD i (.Pass ⟨0, 0, 0, 0⟩)
noncomputable abbrev eP : Stmt := dn 6
noncomputable abbrev kH : Stmt := dn 7
noncomputable abbrev fU : Stmt := dn 10
noncomputable abbrev gG : Stmt := dn 15
noncomputable abbrev eZ : Stmt := dn 20
noncomputable abbrev ey : Stmt := dn 31
noncomputable abbrev fR : Stmt := dn 33
noncomputable abbrev je : Stmt := dn 36
noncomputable abbrev j9 : Stmt := dn 37
noncomputable abbrev j8 : Stmt := dn 40
noncomputable abbrev gH : Stmt := dn 41
noncomputable abbrev ez : Stmt := dn 11
noncomputable abbrev e7 : Stmt := dn 18
noncomputable abbrev e8 : Stmt := dn 23
noncomputable abbrev j7 : Stmt := dn 38
noncomputable abbrev ja : Stmt := dn 42
noncomputable abbrev gE : Stmt := dn 12
noncomputable abbrev gD : Stmt := dn 13
noncomputable abbrev fP : Stmt := dn 19
noncomputable abbrev fk : Stmt := dn 24
noncomputable abbrev fj : Stmt := dn 25
noncomputable abbrev iq : Stmt := dn 39
noncomputable abbrev gC : Stmt := dn 21
noncomputable abbrev fg : Stmt := dn 26
noncomputable abbrev lj : Stmt := dn 43
noncomputable abbrev eN : Stmt := dn 22
noncomputable abbrev fS : Stmt := dn 27
noncomputable abbrev fY : Stmt := dn 28
noncomputable abbrev fT : Stmt := dn 29
noncomputable abbrev fQ : Stmt := dn 30
noncomputable abbrev gF : Stmt := dn 32
noncomputable abbrev eO : Stmt := dn 34
noncomputable abbrev jb : Stmt := dn 44
noncomputable abbrev nU : Stmt := dn 45
theorem sc_read_number : aY ["text", "figures"] ["text"] (ax eP) := ⟨rfl, rfl, rfl, by decide +kernel, rfl, by decide +kernel, by decide +kernel⟩
theorem se : aY ["n"] ["n"] (ax fU) := ⟨rfl, rfl, rfl, by decide +kernel, rfl, by decide +kernel, by decide +kernel⟩
theorem ug : aY ["n", "group"] ["n", "group"] (ax gG) := ⟨rfl, rfl, rfl, by decide +kernel, rfl, by decide +kernel, by decide +kernel⟩
theorem qC : aY ["number", "is_first"] ["number", "is_first"] (ax eZ) := ⟨rfl, rfl, rfl, by decide +kernel, rfl, by decide +kernel, by decide +kernel⟩
theorem sc_signed_terms : aY ["text", "signs", "terms", "word"] ["text"] (ax ey) := ⟨rfl, rfl, rfl, by decide +kernel, rfl, by decide +kernel, by decide +kernel⟩
theorem rZ : aY ["word"] ["word"] (ax fR) := ⟨rfl, rfl, rfl, by decide +kernel, rfl, by decide +kernel, by decide +kernel⟩
theorem sc_lmixed : aY ["_law_cell", "_law_k", "_law_number_here"] ["_law_cell", "_law_k"] (ax je) := ⟨rfl, rfl, rfl, by decide +kernel, rfl, by decide +kernel, by decide +kernel⟩
theorem sc_lpile : aY ["_law_script", "_law_k", "_law_cell"] ["_law_script", "_law_k"] (ax j9) := ⟨rfl, rfl, rfl, by decide +kernel, rfl, by decide +kernel, by decide +kernel⟩
theorem yD : aY ["_law_found", "_law_due"] ["_law_found", "_law_due"] (ax j8) := ⟨rfl, rfl, rfl, by decide +kernel, rfl, by decide +kernel, by decide +kernel⟩
theorem uh : aY ["_law_group"] ["_law_group"] (ax gH) := ⟨rfl, rfl, rfl, by decide +kernel, rfl, by decide +kernel, by decide +kernel⟩
theorem sc_row_of_terms : aY ["n", "terms", "row", "group", "number"] ["n", "terms"] (ax ez) := ⟨rfl, rfl, rfl, by decide +kernel, rfl, by decide +kernel, by decide +kernel⟩
theorem qD : aY ["group"] ["group"] (ax e7) := ⟨rfl, rfl, rfl, by decide +kernel, rfl, by decide +kernel, by decide +kernel⟩
theorem sc_read_whole : aY ["text", "number"] ["text"] (ax e8) := ⟨rfl, rfl, rfl, by decide +kernel, rfl, by decide +kernel, by decide +kernel⟩
theorem sc_ltake : aY ["_law_pile_here", "_law_many", "_law_digit"] ["_law_pile_here", "_law_many"] (ax j7) := ⟨rfl, rfl, rfl, by decide +kernel, rfl, by decide +kernel, by decide +kernel⟩
theorem sc_lshown : aY ["_law_row_here", "_law_words", "_law_place", "_law_number_here", "_law_mark", "_law_text"] ["_law_row_here"] (ax ja) := ⟨rfl, rfl, rfl, by decide +kernel, rfl, by decide +kernel, by decide +kernel⟩
theorem uf : aY ["n", "a", "b"] ["n", "a", "b"] (ax gE) := ⟨rfl, rfl, rfl, by decide +kernel, rfl, by decide +kernel, by decide +kernel⟩
theorem sc_show_term : aY ["group", "number", "size", "letters"] ["group", "number"] (ax fP) := ⟨rfl, rfl, rfl, by decide +kernel, rfl, by decide +kernel, by decide +kernel⟩
theorem sc_read_count : aY ["text", "least", "number"] ["text", "least"] (ax fk) := ⟨rfl, rfl, rfl, by decide +kernel, rfl, by decide +kernel, by decide +kernel⟩
theorem sc_read_group : aY ["n", "text", "group"] ["n", "text"] (ax fj) := ⟨rfl, rfl, rfl, by decide +kernel, rfl, by decide +kernel, by decide +kernel⟩
theorem sc_lnumber : aY ["_law_pile_here", "_law_way", "_law_number_here", "_law_k"] ["_law_pile_here"] (ax iq) := ⟨rfl, rfl, rfl, by decide +kernel, rfl, by decide +kernel, by decide +kernel⟩
theorem sc_show_row : aY ["n", "row", "shown", "group", "number"] ["n", "row"] (ax gC) := ⟨rfl, rfl, rfl, by decide +kernel, rfl, by decide +kernel, by decide +kernel⟩
theorem qE : aY ["n", "parts"] ["n", "parts"] (ax fg) := ⟨rfl, rfl, rfl, by decide +kernel, rfl, by decide +kernel, by decide +kernel⟩
theorem sc_lrow : aY ["_law_script", "_law_start", "_law_n", "_law_row_here", "_law_g", "_law_pile_here"] ["_law_script", "_law_start", "_law_n"] (ax lj) := ⟨rfl, rfl, rfl, by decide +kernel, rfl, by decide +kernel, by decide +kernel⟩
theorem sc_show_saying : aY ["n", "saying", "row", "sign", "number"] ["n", "saying"] (ax eN) := ⟨rfl, rfl, rfl, by decide +kernel, rfl, by decide +kernel, by decide +kernel⟩
theorem sc_read_rest : aY ["n", "text", "parts", "known"] ["n", "text"] (ax fS) := ⟨rfl, rfl, rfl, by decide +kernel, rfl, by decide +kernel, by decide +kernel⟩
theorem sd : aY ["n", "text"] ["n", "text"] (ax fT) := ⟨rfl, rfl, rfl, by decide +kernel, rfl, by decide +kernel, by decide +kernel⟩
theorem sc_read_term : aY ["n", "sign", "words", "number"] ["n", "sign", "words"] (ax fQ) := ⟨rfl, rfl, rfl, by decide +kernel, rfl, by decide +kernel, by decide +kernel⟩
theorem sc_read_row : aY ["n", "text", "row", "sign", "words"] ["n", "text"] (ax gF) := ⟨rfl, rfl, rfl, by decide +kernel, rfl, by decide +kernel, by decide +kernel⟩
theorem sc_read_saying : aY ["n", "text", "words"] ["n", "text"] (ax eO) := ⟨rfl, rfl, rfl, by decide +kernel, rfl, by decide +kernel, by decide +kernel⟩
theorem sc_lright : aY ["_law_n", "_law_row_here", "_law_sign", "_law_number_here", "_law_handed", "_law_text", "_law_time", "_law_found"] ["_law_n", "_law_row_here", "_law_sign", "_law_number_here"] (ax jb) := ⟨rfl, rfl, rfl, by decide +kernel, rfl, by decide +kernel, by decide +kernel⟩
theorem sc_law : aY ["_law_script", "_law_turn", "_law_pile_here", "_law_n", "_law_row_here", "_law_number_here", "_law_sign"] ["_law_script"] (ax nU) := ⟨rfl, rfl, rfl, by decide +kernel, rfl, by decide +kernel, by decide +kernel⟩
noncomputable def lh : DS := (aE (bN 1 (gW (aL (hG (dS (pV 0)) (dS (pC (.str "-"))))) (kR (dS (pV 0)) (some (pC (.int 1))) none) (dS (pV 0))))
   (aE (dr (gm (aL (bP tF (dS (bZ fo [(pV 1)])) (dS (pC (.int 1))))) (gm (aL (bP C6 (dS (bZ fo [(pV 1)])) (dS (pC (.int 2000))))) (fF (aL (iz pX (aD (iJ 1 (oo (dS (pV 1))) (dF 2) mw (dS (bh tG (pV 2) (pC (.str "0123456789"))))) bX)))))) dZ cy)
   (aE (dr (kC (aL (bP eB (dS (bh dJ (pV 1) (pC (.int 0)))) (dS (pC (.str "0"))))) (aL (bP jw (dS (pV 0)) (dS (pC (.str "0")))))) dZ cy)
   (bV (dS (bZ mN [(pV 0)]))))))
noncomputable def gf : GF := df 2 [1] lh
noncomputable def m5 : DS := (bV (dS (bh pO (bh zm (pC (.int 1)) (pV 0)) (pC (.int 1)))))
noncomputable def eW : GF := df 1 [] m5
noncomputable def oO : DS := (bV (iJ 1 (qg (aD (dS (pV 0)) bX)) (dF 2) (aL (bP jw (dS (bh C8 (pV 1) (bh zm (pC (.int 1)) (pV 2)))) (dS (pC (.int 0))))) (dS (pV 2))))
noncomputable def iT : GF := df 2 [] oO
noncomputable def lW : DS := (aE (dr (aL (dS (pV 1))) (bV (gW (aL (bP tF (dS (pV 0)) (dS (pC (.int 0))))) (dS (pC (.str "-"))) (dS (pC (.str ""))))) cy)
   (bV (gW (aL (bP tF (dS (pV 0)) (dS (pC (.int 0))))) (dS (pC (.str " - "))) (dS (pC (.str " + "))))))
noncomputable def gP : GF := df 2 [] lW
noncomputable def kn : DS := (aE (bN 1 (eC (aD (gW (aL (hG (dS (pV 0)) (dS (pC (.str "-"))))) (dS (fO (pC (.int 1)))) (dS (pC (.int 1)))) bX)))
   (aE (bN 2 (eC (aD (eC bX) bX)))
   (aE (eD (ju (jz (gW (aL (bP eB (dS (bh dJ (pV 1) (pC (.int 0)))) (dS (fO (pC (.int 1)))))) (kR (dS (pV 0)) (some (pC (.int 1))) none) (dS (pV 0))) (dS (pC (.str " "))))) (dF 3) (dr (gm (aL (bP eB (dS (pV 3)) (dS (pC (.str "+"))))) (aL (bP eB (dS (pV 3)) (dS (pC (.str "-")))))) (aE (hV (jM 1 (gW (aL (bP eB (dS (pV 3)) (dS (pC (.str "+"))))) (dS (pC (.int 1))) (dS (fO (pC (.int 1)))))))
   (hV (jM 2 (eC bX)))) (hV (tR 2 [(fO (pC (.int 1)))] (pV 3)))))
   (bV (xY (aD (iK 1) (aD (iK 2) bX)))))))
noncomputable def fJ : GF := df 4 [1, 2, 3] kn
noncomputable def mX : DS := (aE (dr (aL (bP eB (dS (pV 0)) (dS (pC (.str "="))))) (bV (dS (pC (.str "=")))) cy)
   (aE (dr (aL (bP eB (dS (pV 0)) (dS (pC (.str ">="))))) (bV (dS (pC (.str ">")))) cy)
   dZ))
noncomputable def ig : GF := df 1 [] mX
noncomputable def tZ : DS := (aE (bN 2 (dS (bh pQ (bh jZ (bh jZ (bh gU (bh pQ (pV 0) (pC (.int 2147483647))) (pC (.int 48271))) (bh gU (pV 1) (pC (.int 69621)))) (pC (.int 11))) (pC (.int 2147483647)))))
   (aE (bN 2 (dS (bh pQ (bh gU (pV 2) (pV 2)) (pC (.int 2147483629)))))
   (bV (dS (bh pQ (bh gU (pV 2) (pV 2)) (pC (.int 2147483587)))))))
noncomputable def kP : GF := df 3 [2, 2] tZ
noncomputable def vk : DS := (aE (bN 2 (dS (pC (.int 0))))
   (aE (dr (aL (bP tF (dS (pV 1)) (dS (bZ fo [(pV 0)])))) (bN 2 (dS (bh dJ (pV 0) (pV 1)))) cy)
   (bV (eC (aD (dS (bh gU (pV 2) (bZ lN [(bh EU (bZ mh [(pV 2)]) (bh wk (pC (.int 10)) (pC (.int 18))))]))) (aD (dS (pV 2)) (aD (dS (bh gU (pC (.int 97)) (pV 1))) bX)))))))
noncomputable def kg : GF := df 3 [2, 2] vk
noncomputable def vj : DS := (aE (dr (gm (fF (aL (dS (bZ jY [(pV 0), (pC (.ty "list"))])))) (aL (dS (bh jw (pV 0) (pV 1))))) dZ cy)
   (bV (bP eB (oD 1 (oC 0 (iJ 1 (ju (iK 0)) (dF 2) (gm (aL (dS (bZ jY [(pV 2), (pC (.ty "bool"))]))) (fF (aL (dS (bZ jY [(pV 2), (pC (.ty "int"))]))))) (iK 2)))) (eC bX))))
noncomputable def iZ : GF := df 2 [] vj
noncomputable def oP : DS := (bV (jL (dS (pC (.str ""))) (iJ 2 (oq (dS (pC (.str "abcd")))) (gg 2 (cL (dF 1) (cL (dF 2) gT))) (aL (bP eB (dS (bh C8 (bh FG (pV 0) (pV 1)) (pC (.int 1)))) (dS (pC (.int 1))))) (dS (pV 2)))))
noncomputable def iU : GF := df 1 [] oP
noncomputable def ko : DS := (aE (bN 2 (nK (eC (aD (dS (pC (.int 0))) bX)) (aW eW [.bo 0])))
   (aE (eD (ju (iK 1)) (gg 2 (cL (dF 3) (cL (dF 4) gT))) (dr (aL (bP jw (dS (pV 3)) (dS (pC (.int 0))))) (lm jZ 2 [] (bh pO (pV 3) (pC (.int 1))) (pV 4)) cy))
   (bV (tO 2))))
noncomputable def fK : GF := df 5 [2, 3, 4] ko
noncomputable def lX : DS := (bV (jL (dS (pC (.str ""))) (iJ 1 (ju (aW iT [.ex (dS (pC (.int 4))), .bo 0])) (dF 1) mw (dS (bh dJ (pC (.str "abcd")) (pV 1))))))
noncomputable def fx : GF := df 1 [] lX
noncomputable def lY : DS := (aE (bN 1 (aW gf [.bo 0]))
   (aE (dr (aL (bP EU (dS (bZ mh [(pV 1)])) (dS (bh wk (pC (.int 10)) (pC (.int 40)))))) dZ cy)
   (bV (dS (pV 1)))))
noncomputable def fy : GF := df 2 [1] lY
noncomputable def vi : DS := (aE (dr (aL (dS (bh z9 (bh dJ (pV 0) (pC (.int 0))) (nB [(pC (.int 0)), (fO (pC (.int 1)))])))) (aE (pw (dS (bh jZ (bh dJ (pV 0) (pC (.int 2))) (pC (.int 1)))) (pP 0 [] (pC (.int 2))))
   (bV (bP pQ (aW kP [.ex (dS (bh dJ (pV 0) (pC (.int 1)))), .ex (dS (bh dJ (pV 0) (pC (.int 2))))]) (dS (pV 1))))) cy)
   (aE (bN 2 (dS (bh pQ (bh dJ (pV 0) (pC (.int 0))) (pV 1))))
   (aE (pw (dS (bh C7 (bh dJ (pV 0) (pC (.int 0))) (pV 1))) (pP 0 [] (pC (.int 0))))
   (bV (dS (pV 2))))))
noncomputable def eV : GF := df 3 [2] vi
noncomputable def tX : DS := (aE (bN 1 (eC bX))
   (aE (eD (lO 0 (iK 0)) (gg 2 (cL (dF 2) (cL (dF 3) gT))) (dr (aL (bP jw (dS (pV 3)) (dS (pC (.int 0))))) (aE (bN 4 (dS (bh dJ (nB [(pC (.str " + ")), (pC (.str " - "))]) (bZ lN [(bh tF (pV 3) (pC (.int 0)))]))))
   (hV (jM 1 (bP eY (bP eY (dS (bh eY (bh eY (pV 4) (bZ kD [(bZ mh [(pV 3)])])) (pC (.str " h(")))) (aW iU [.ex (dS (bh jZ (pV 2) (pC (.int 1))))])) (dS (pC (.str ")"))))))) cy))
   (aE (bN 5 (jL (dS (pC (.str ""))) (iK 1)))
   (aE (dr (aL (bP eB (dS (pV 5)) (dS (pC (.str ""))))) (bV (dS (pC (.str "0")))) cy)
   (aE (dr (aL (bP eB (dS (bh dJ (pV 5) (pC (.int 1)))) (dS (pC (.str "-"))))) (bV (bP eY (dS (pC (.str "-"))) (kR (dS (pV 5)) (some (pC (.int 3))) none))) cy)
   (bV (kR (dS (pV 5)) (some (pC (.int 3))) none)))))))
noncomputable def kO : GF := df 6 [1, 2, 3, 4, 5] tX
noncomputable def oK : DS := (bV (aW fK [.bo 0, .ex (eC (aD (jy (aD (dS (bh Go (pV 1) (pV 2))) (aD (dS (pC (.int 1))) bX))) (aD (jy (aD (dS (pV 2)) (aD (dS (fO (pC (.int 1)))) bX))) bX)))]))
noncomputable def iR : GF := df 3 [] oK
noncomputable def mV : DS := (aE (bN 2 (dS (bZ mh [(pV 1)])))
   (aE (bN 3 (aW fx [.bo 0]))
   (bV (vg [(lU (dS (pV 2))), (dS (pC (.str " h("))), (lU (dS (pV 3))), (dS (pC (.str ")")))]))))
noncomputable def ic : GF := df 4 [2, 3] mV
noncomputable def md : DS := (aE (bN 2 (aW fy [.bo 0]))
   (aE (dr (aL (bP tF (dS (pV 2)) (dS (pV 1)))) dZ cy)
   (bV (dS (pV 2)))))
noncomputable def gS : GF := df 3 [2] md
noncomputable def ma : DS := (aE (eD (vb (aD (dS (pC (.int 1))) (aD (bP jZ (aW eW [.bo 0]) (dS (pC (.int 1)))) bX))) (dF 2) (dr (aL (bP eB (aW fx [.bo 2]) (dS (pV 1)))) (bV (dS (pV 2))) cy))
   dZ)
noncomputable def fA : GF := df 3 [2] ma
noncomputable def qj : DS := (aE (bN 1 (aW eV [.bo 0, .ex (dS (pC (.int 4)))]))
   (aE (dr (aL (bP eB (dS (pV 1)) (dS (pC (.int 0))))) (aE (bN 2 (dS (pC (.int 0))))
   (aE (eD (qg (aD (dS (pC (.int 4))) bX)) (dF 3) (bN 2 (bP jZ (dS (bh gU (pV 2) (bh wk (pC (.int 10)) (pC (.int 10))))) (aW eV [.bo 0, .ex (dS (bh wk (pC (.int 10)) (pC (.int 10))))]))))
   (bV (tP (eC (aD (dS (pV 2)) (aD (dS (fO (pV 2))) bX))) (aW eV [.bo 0, .ex (dS (pC (.int 2)))]))))) cy)
   (aE (dr (aL (bP eB (dS (pV 1)) (dS (pC (.int 1))))) (bV (bP pO (aW eV [.bo 0, .ex (dS (pC (.int 2001)))]) (dS (pC (.int 1000))))) cy)
   (bV (bP pO (aW eV [.bo 0, .ex (dS (pC (.int 9)))]) (dS (pC (.int 4))))))))
noncomputable def iy : GF := df 4 [1, 2, 3, 2] qj
noncomputable def oJ : DS := (aE (bN 2 (dS (pC (.str ""))))
   (aE (eD (lO 1 (iK 1)) (gg 2 (cL (dF 3) (cL (dF 4) gT))) (dr (aL (bP jw (dS (pV 4)) (dS (pC (.int 0))))) (bN 2 (bP eY (bP eY (dS (pV 2)) (aW gP [.bo 4, .ex (dS (bh eB (pV 2) (pC (.str ""))))])) (aW ic [.bo 3, .bo 4]))) cy))
   (bV (gW (aL (bP jw (dS (pV 2)) (dS (pC (.str ""))))) (dS (pV 2)) (dS (pC (.str "0")))))))
noncomputable def gQ : GF := df 5 [2, 3, 4, 2] oJ
noncomputable def lZ : DS := (aE (dr (aL (bP C6 (dS (bZ fo [(pV 1)])) (dS (pC (.int 2))))) dZ cy)
   (bV (gW (aL (bP eB (dS (bZ fo [(pV 1)])) (dS (pC (.int 2))))) (aW fA [.bo 0, .ex (tP (iK 1) (dS (pC (.int 1))))]) (dS (pC (.int 0))))))
noncomputable def gR : GF := df 2 [] lZ
noncomputable def yd : DS := (aE (bN 3 (eC bX))
   (aE (eD (vb (aD (dS (pC (.int 1))) (aD (dS (bh zm (pC (.int 1)) (pV 2))) bX))) (dF 4) (aE (bN 5 (aW kg [.bo 0, .ex (dS (bh jZ (pV 1) (pV 4)))]))
   (hV (jM 3 (bP gU (aW iy [.bo 5]) (iz lN (aD (bP C6 (aW eV [.bo 5, .ex (dS (pC (.int 3)))]) (dS (pC (.int 0)))) bX)))))))
   (bV (tO 3))))
noncomputable def ot : GF := df 6 [3, 4, 5] yd
noncomputable def lf : DS := (aE (bN 2 (pU (nC 1 (pC (.int 0))) (jA gQ [.bo 0, .bp 1 (pC (.int 0))]) (aW gQ [.bo 0, .ex (tP (iK 1) (dS (pC (.int 0))))])))
   (aE (bN 3 (gW (aL (bP eB (dS (bh dJ (pV 1) (pC (.int 1)))) (dS (pC (.str "="))))) (dS (pC (.str "="))) (dS (pC (.str ">=")))))
   (aE (bN 4 (dS (bh dJ (pV 1) (pC (.int 2)))))
   (bV (vg [(lU (dS (pV 2))), (dS (pC (.str " "))), (lU (dS (pV 3))), (dS (pC (.str " "))), (lU (dS (pV 4)))])))))
noncomputable def gb : GF := df 5 [2, 3, 4] lf
noncomputable def mY : DS := (aE (bN 2 (jz (dS (pV 1)) (dS (pC (.str "|")))))
   (aE (bN 3 (aW gR [.bo 0, .bo 2]))
   (bV (aW iR [.bo 0, .ex (aW fA [.bo 0, .ex (dS (bh dJ (pV 2) (pC (.int 0))))]), .bo 3]))))
noncomputable def ii : GF := df 4 [2, 3] mY
noncomputable def mZ : DS := (aE (dr (kC (aL (hG (dS (pV 1)) (dS (pC (.str "h("))))) (aL (oE (dS (pV 1)) (dS (pC (.str ")")))))) (bV (aW ii [.bo 0, .ex (kR (dS (pV 1)) (some (pC (.int 2))) (some (fO (pC (.int 1)))))])) cy)
   dZ)
noncomputable def ij : GF := df 2 [] mZ
noncomputable def mW : DS := (aE (dr (aL (bP eB (dS (bZ fo [(pV 2)])) (dS (pC (.int 1))))) dZ (dr (aL (bP eB (dS (bZ fo [(pV 2)])) (dS (pC (.int 2))))) (bN 3 (bP gU (dS (pV 1)) (aW gS [.ex (dS (bh dJ (pV 2) (pC (.int 0)))), .ex (dS (pC (.int 1)))]))) dZ))
   (bV (iJ 1 (ju (aW ij [.bo 0, .ex (dS (bh dJ (pV 2) (fO (pC (.int 1)))))])) (dF 4) mw (dS (bh gU (pV 3) (pV 4))))))
noncomputable def ie : GF := df 4 [3] mW
noncomputable def oN : DS := (aE (bN 2 (nK (eC (aD (dS (pC (.int 0))) bX)) (aW eW [.bo 0])))
   (aE (dr (aL (bP eB (dS (pV 1)) (dS (pC (.str "0"))))) (bV (tO 2)) cy)
   (aE (eD (ju (aW fJ [.bo 1])) (gg 2 (cL (dF 3) (cL (dF 4) gT))) (bN 2 (iJ 2 (om (iK 2) (aW ie [.bo 0, .bo 3, .bo 4])) (gg 2 (cL (dF 5) (cL (dF 6) gT))) mw (dS (bh jZ (pV 5) (pV 6))))))
   (bV (tO 2)))))
noncomputable def iS : GF := df 5 [2, 3, 4, 2] oN
noncomputable def lg : DS := (aE (bN 2 (jz (dS (pV 1)) (dS (pC (.str " ")))))
   (aE (dr (aL (bP tF (dS (bZ fo [(pV 2)])) (dS (pC (.int 3))))) dZ cy)
   (bV (jy (aD (aW iS [.bo 0, .ex (jL (dS (pC (.str " "))) (tN (pV 2) none (some (fO (pC (.int 2))))))]) (aD (aW ig [.ex (dS (bh dJ (pV 2) (fO (pC (.int 2)))))]) (aD (aW fy [.ex (dS (bh dJ (pV 2) (fO (pC (.int 1)))))]) bX)))))))
noncomputable def gc : GF := df 3 [2] lg
noncomputable def tY : DS := (aE (bN 4 (jy (aD (lT (pV 1)) (aD (dS (pV 2)) (aD (dS (pV 3)) bX)))))
   (aE (bN 5 (aW gb [.bo 0, .bo 4]))
   (aE (dr (gm (fF (aL (dS (bZ jY [(pV 5), (pC (.ty "str"))])))) (aL (bP jw (dS (pV 5)) (bP eY (bP eY (aW kO [.bo 1]) (dS (bh dJ (nB [(pC (.str " = ")), (pC (.str " >= "))]) (bZ lN [(bh eB (pV 2) (pC (.str ">")))])))) (dS (bZ kD [(pV 3)])))))) dZ cy)
   (aE (eD (qg (aD (dS (pC (.int 2))) bX)) (dF 6) (aE (bN 7 (aW gc [.bo 0, .bo 5]))
   (aE (dr (gm (fF (aL (dS (bZ jY [(pV 7), (pC (.ty "tuple"))])))) (gm (aL (bP jw (dS (bZ fo [(pV 7)])) (dS (pC (.int 3))))) (gm (fF (aL (pU (nC 7 (pC (.int 0))) (jA iZ [.bp 7 (pC (.int 0)), .bo 1]) (aW iZ [.ex (tP (iK 7) (dS (pC (.int 0)))), .bo 1])))) (aL (bP jw (dS (bh dJ (pV 7) (pC (.int 1)))) (dS (pV 2))))))) dZ cy)
   (aE (dr (fF (aL (aW iZ [.ex (eC (aD (dS (bh dJ (pV 7) (pC (.int 2)))) bX)), .ex (eC (aD (dS (pV 3)) bX))]))) dZ cy)
   (hV (oF 7 [(pC (.int 0))]))))))
   (bV (nM eB 4 (jy (aD (iK 1) (aD (dS (pV 2)) (aD (dS (pV 3)) bX))))))))))
noncomputable def jv : GF := df 8 [4, 5, 6, 7] tY
noncomputable def Ac : DS := (aE (eD (qg (aD (dS (pC (.int 4))) bX)) (dF 1) (aE (bN 2 (aW kg [.bo 0, .ex (dS (bh gU (pC (.int 16)) (pV 1)))]))
   (aE (bN 3 (bP jZ (dS (pC (.int 1))) (aW eV [.bo 2, .ex (dS (pC (.int 4)))])))
   (aE (bN 4 (aW ot [.bo 0, .ex (dS (bh gU (pC (.int 16)) (pV 1))), .bo 3]))
   (aE (bN 5 (aW iy [.bo 2]))
   (eD (ju (eC (aD (dS (pC (.str "="))) (aD (dS (pC (.str ">"))) bX)))) (dF 6) (dr (gm (fF (aL (aW jv [.bo 3, .bo 4, .bo 6, .bo 5]))) (fF (aL (aW jv [.bo 3, .ex (nK (eC (aD (dS (pC (.int 0))) bX)) (dS (bZ fo [(pV 4)]))), .bo 6, .bo 5])))) dZ cy)))))))
   (bV (dS (pC (.bl true)))))
noncomputable def jK : GF := df 7 [1, 2, 3, 4, 5, 6] Ac
set_option genInjectivity false
set_option genSizeOfSpec false
set_option genSizeOf false
structure Txt (K : PySem.W.Frag) (mg : Str -> Option Value) where
 a_read_number : Addr
 d_read_number : FuncData
 a_in_two : Addr
 d_in_two : FuncData
 a_all_names : Addr
 d_all_names : FuncData
 a_names_in : Addr
 d_names_in : FuncData
 a_sign_ahead : Addr
 d_sign_ahead : FuncData
 a_signed_terms : Addr
 d_signed_terms : FuncData
 a_read_sign : Addr
 d_read_sign : FuncData
 a_lmixed : Addr
 d_lmixed : FuncData
 a_lpile : Addr
 d_lpile : FuncData
 a_lsame : Addr
 d_lsame : FuncData
 a_lletters : Addr
 d_lletters : FuncData
 a_row_of_terms : Addr
 d_row_of_terms : FuncData
 a_show_group : Addr
 d_show_group : FuncData
 a_read_whole : Addr
 d_read_whole : FuncData
 a_ltake : Addr
 d_ltake : FuncData
 a_lshown : Addr
 d_lshown : FuncData
 a_rest_row : Addr
 d_rest_row : FuncData
 a_shared_row : Addr
 d_shared_row : FuncData
 a_show_term : Addr
 d_show_term : FuncData
 a_read_count : Addr
 d_read_count : FuncData
 a_read_group : Addr
 d_read_group : FuncData
 a_lnumber : Addr
 d_lnumber : FuncData
 a_show_row : Addr
 d_show_row : FuncData
 a_read_known : Addr
 d_read_known : FuncData
 a_lrow : Addr
 d_lrow : FuncData
 a_show_saying : Addr
 d_show_saying : FuncData
 a_read_rest : Addr
 d_read_rest : FuncData
 a_read_shared : Addr
 d_read_shared : FuncData
 a_read_form : Addr
 d_read_form : FuncData
 a_read_term : Addr
 d_read_term : FuncData
 a_read_row : Addr
 d_read_row : FuncData
 a_read_saying : Addr
 d_read_saying : FuncData
 a_lright : Addr
 d_lright : FuncData
structure Tx {K : PySem.W.Frag} {mg : Str -> Option Value} (t : Txt K mg) : Prop where
 F_read_number : Fun K "read_number" "read_number" eP t.a_read_number t.d_read_number
 m_read_number : mg "read_number" = some (.ref t.a_read_number)
 n_read_number : Binds K t.d_read_number ["text"] []
 F_in_two : Fun K "in_two" "in_two" kH t.a_in_two t.d_in_two
 m_in_two : mg "in_two" = some (.ref t.a_in_two)
 n_in_two : Binds K t.d_in_two ["text", "sign"] []
 F_all_names : Fun K "all_names" "all_names" fU t.a_all_names t.d_all_names
 m_all_names : mg "all_names" = some (.ref t.a_all_names)
 n_all_names : Binds K t.d_all_names ["n"] []
 F_names_in : Fun K "names_in" "names_in" gG t.a_names_in t.d_names_in
 m_names_in : mg "names_in" = some (.ref t.a_names_in)
 n_names_in : Binds K t.d_names_in ["n", "group"] []
 F_sign_ahead : Fun K "sign_ahead" "sign_ahead" eZ t.a_sign_ahead t.d_sign_ahead
 m_sign_ahead : mg "sign_ahead" = some (.ref t.a_sign_ahead)
 n_sign_ahead : Binds K t.d_sign_ahead ["number", "is_first"] []
 F_signed_terms : Fun K "signed_terms" "signed_terms" ey t.a_signed_terms t.d_signed_terms
 m_signed_terms : mg "signed_terms" = some (.ref t.a_signed_terms)
 n_signed_terms : Binds K t.d_signed_terms ["text"] []
 F_read_sign : Fun K "read_sign" "read_sign" fR t.a_read_sign t.d_read_sign
 m_read_sign : mg "read_sign" = some (.ref t.a_read_sign)
 n_read_sign : Binds K t.d_read_sign ["word"] []
 F_lmixed : Fun K "_law_mixed" "_law_mixed" je t.a_lmixed t.d_lmixed
 m_lmixed : mg "_law_mixed" = some (.ref t.a_lmixed)
 n_lmixed : Binds K t.d_lmixed ["_law_cell", "_law_k"] []
 F_lpile : Fun K "_law_pile" "_law_pile" j9 t.a_lpile t.d_lpile
 m_lpile : mg "_law_pile" = some (.ref t.a_lpile)
 n_lpile : Binds K t.d_lpile ["_law_script", "_law_k"] []
 F_lsame : Fun K "_law_same" "_law_same" j8 t.a_lsame t.d_lsame
 m_lsame : mg "_law_same" = some (.ref t.a_lsame)
 n_lsame : Binds K t.d_lsame ["_law_found", "_law_due"] []
 F_lletters : Fun K "_law_letters" "_law_letters" gH t.a_lletters t.d_lletters
 m_lletters : mg "_law_letters" = some (.ref t.a_lletters)
 n_lletters : Binds K t.d_lletters ["_law_group"] []
 F_row_of_terms : Fun K "row_of_terms" "row_of_terms" ez t.a_row_of_terms t.d_row_of_terms
 m_row_of_terms : mg "row_of_terms" = some (.ref t.a_row_of_terms)
 n_row_of_terms : Binds K t.d_row_of_terms ["n", "terms"] []
 F_show_group : Fun K "show_group" "show_group" e7 t.a_show_group t.d_show_group
 m_show_group : mg "show_group" = some (.ref t.a_show_group)
 n_show_group : Binds K t.d_show_group ["group"] []
 F_read_whole : Fun K "read_whole" "read_whole" e8 t.a_read_whole t.d_read_whole
 m_read_whole : mg "read_whole" = some (.ref t.a_read_whole)
 n_read_whole : Binds K t.d_read_whole ["text"] []
 F_ltake : Fun K "_law_take" "_law_take" j7 t.a_ltake t.d_ltake
 m_ltake : mg "_law_take" = some (.ref t.a_ltake)
 n_ltake : Binds K t.d_ltake ["_law_pile_here", "_law_many"] []
 F_lshown : Fun K "_law_shown" "_law_shown" ja t.a_lshown t.d_lshown
 m_lshown : mg "_law_shown" = some (.ref t.a_lshown)
 n_lshown : Binds K t.d_lshown ["_law_row_here"] []
 F_rest_row : Fun K "rest_row" "rest_row" gE t.a_rest_row t.d_rest_row
 m_rest_row : mg "rest_row" = some (.ref t.a_rest_row)
 n_rest_row : Binds K t.d_rest_row ["n", "a", "b"] []
 F_shared_row : Fun K "shared_row" "shared_row" gD t.a_shared_row t.d_shared_row
 m_shared_row : mg "shared_row" = some (.ref t.a_shared_row)
 n_shared_row : Binds K t.d_shared_row ["n", "a", "b", "c"] []
 F_show_term : Fun K "show_term" "show_term" fP t.a_show_term t.d_show_term
 m_show_term : mg "show_term" = some (.ref t.a_show_term)
 n_show_term : Binds K t.d_show_term ["group", "number"] []
 F_read_count : Fun K "read_count" "read_count" fk t.a_read_count t.d_read_count
 m_read_count : mg "read_count" = some (.ref t.a_read_count)
 n_read_count : Binds K t.d_read_count ["text", "least"] []
 F_read_group : Fun K "read_group" "read_group" fj t.a_read_group t.d_read_group
 m_read_group : mg "read_group" = some (.ref t.a_read_group)
 n_read_group : Binds K t.d_read_group ["n", "text"] []
 F_lnumber : Fun K "_law_number" "_law_number" iq t.a_lnumber t.d_lnumber
 m_lnumber : mg "_law_number" = some (.ref t.a_lnumber)
 n_lnumber : Binds K t.d_lnumber ["_law_pile_here"] []
 F_show_row : Fun K "show_row" "show_row" gC t.a_show_row t.d_show_row
 m_show_row : mg "show_row" = some (.ref t.a_show_row)
 n_show_row : Binds K t.d_show_row ["n", "row"] []
 F_read_known : Fun K "read_known" "read_known" fg t.a_read_known t.d_read_known
 m_read_known : mg "read_known" = some (.ref t.a_read_known)
 n_read_known : Binds K t.d_read_known ["n", "parts"] []
 F_lrow : Fun K "_law_row" "_law_row" lj t.a_lrow t.d_lrow
 m_lrow : mg "_law_row" = some (.ref t.a_lrow)
 n_lrow : Binds K t.d_lrow ["_law_script", "_law_start", "_law_n"] []
 F_show_saying : Fun K "show_saying" "show_saying" eN t.a_show_saying t.d_show_saying
 m_show_saying : mg "show_saying" = some (.ref t.a_show_saying)
 n_show_saying : Binds K t.d_show_saying ["n", "saying"] []
 F_read_rest : Fun K "read_rest" "read_rest" fS t.a_read_rest t.d_read_rest
 m_read_rest : mg "read_rest" = some (.ref t.a_read_rest)
 n_read_rest : Binds K t.d_read_rest ["n", "text"] []
 F_read_shared : Fun K "read_shared" "read_shared" fY t.a_read_shared t.d_read_shared
 m_read_shared : mg "read_shared" = some (.ref t.a_read_shared)
 n_read_shared : Binds K t.d_read_shared ["n", "text"] []
 F_read_form : Fun K "read_form" "read_form" fT t.a_read_form t.d_read_form
 m_read_form : mg "read_form" = some (.ref t.a_read_form)
 n_read_form : Binds K t.d_read_form ["n", "text"] []
 F_read_term : Fun K "read_term" "read_term" fQ t.a_read_term t.d_read_term
 m_read_term : mg "read_term" = some (.ref t.a_read_term)
 n_read_term : Binds K t.d_read_term ["n", "sign", "words"] []
 F_read_row : Fun K "read_row" "read_row" gF t.a_read_row t.d_read_row
 m_read_row : mg "read_row" = some (.ref t.a_read_row)
 n_read_row : Binds K t.d_read_row ["n", "text"] []
 F_read_saying : Fun K "read_saying" "read_saying" eO t.a_read_saying t.d_read_saying
 m_read_saying : mg "read_saying" = some (.ref t.a_read_saying)
 n_read_saying : Binds K t.d_read_saying ["n", "text"] []
 F_lright : Fun K "_law_right" "_law_right" jb t.a_lright t.d_lright
 m_lright : mg "_law_right" = some (.ref t.a_lright)
 n_lright : Binds K t.d_lright ["_law_n", "_law_row_here", "_law_sign", "_law_number_here"] []
 b_abs : mg "abs" = none
 b_all : mg "all" = none
 b_bool : mg "bool" = none
 b_enumerate : mg "enumerate" = none
 b_int : mg "int" = none
 b_isinstance : mg "isinstance" = none
 b_len : mg "len" = none
 b_list : mg "list" = none
 b_range : mg "range" = none
 b_str : mg "str" = none
 b_tuple : mg "tuple" = none
 b_zip : mg "zip" = none
 c_FIGURES : ∃ t, mg "FIGURES" = some (.str "0123456789" t)
 c_LETTERS : ∃ t, mg "LETTERS" = some (.str "abcd" t)
 c_MOST_FIGURES : ∃ t, mg "MOST_FIGURES" = some (.int 2000 t)
 c_MOST_NAMES : ∃ t, mg "MOST_NAMES" = some (.int 4 t)
section
variable {P : Program} {w : World} {K : PySem.W.Frag} {mg : Str -> Option Value} {base : Heap} {t : Txt K mg}
theorem pF (T : Tx t) : bY P w K mg base cN 1 t.a_read_number t.d_read_number ["text"] (cP K 1 gf) := by
 refine cK (N := ["text", "figures"]) (W := [1]) T.F_read_number sc_read_number dC fun cdv A outer s H E hr => ?_
 have hu := hr.units;exact (aj (bg 1 sc_read_number.nd (iN (gn (ls (ab (ah 0)) (ab aJ))) (lw (ab (ah 0)) (g7 af) kc) (ab (ah 0))))
   (aj (cu (kI (hZ (br nG (ab (dH (id := "len") ik (by rfl) T.b_len (by decide +kernel) (aM (ah 1) bF))) (ab af) (aR _)) (hZ (br yY (ab (dH (id := "len") ik (by rfl) T.b_len (by decide +kernel) (aM (ah 1) bF))) (ab (uN (by rfl) T.c_MOST_FIGURES)) (aR _)) (jg (gJ (gn (DZ (id := "all") (EF (by rfl)) (by rfl) T.b_all (by decide +kernel) (aN (pI ["text", "figures", "sign"] (Ca (ab (ah 1))) (fun _ _ _ _ _ => by exact (bW 2 (show List.Nodup (["text", "figures", "sign"] : List Str) by decide +kernel))) (fun _ _ _ _ _ => by exact mB) (fun _ _ _ _ _ => by exact (ab (ly Em (ah 2) (ss (by rfl) T.c_FIGURES) (by rfl))))) bO)))))))) cr bK)
   (aj (cu (kI (wU (br (dX hu) (ab (cW (hs := dP) (ah 1) af)) (ab aJ) (aR _)) (uK (br (jV hu) (ab (ah 0)) (ab aJ) (aR _))))) cr bK)
   (ao (aZ (ab (mE (T := "int") Dh (by rfl) T.b_int (by decide +kernel) (aM (ah 0) bF))))))))
theorem ji (T : Tx t) : bY P w K mg base cN 1 t.a_all_names t.d_all_names ["n"] (cP K 1 eW) := by
 refine cK (N := ["n"]) (W := []) T.F_all_names se dC fun cdv A outer s H E hr => ?_
 have hu := hr.units;exact (ao (aZ (ab (bJ qR (bJ vZ af (ah 0)) af))))
theorem um (T : Tx t) : bY P w K mg base cN 1 t.a_names_in t.d_names_in ["n", "group"] (cP K 2 iT) := by
 refine cK (N := ["n", "group"]) (W := []) T.F_names_in ug dC fun cdv A outer s H E hr => ?_
 have hu := hr.units;exact (ao (aZ (pI ["n", "group", "k"] (qO (by rfl) T.b_range (aN (ab (ah 0)) bO)) (fun _ _ _ _ _ => by exact (bW 2 (show List.Nodup (["n", "group", "k"] : List Str) by decide +kernel))) (fun _ _ _ _ _ => by exact (pA (br (jV hu) (ab (bJ zS (ah 1) (bJ vZ af (ah 2)))) (ab af) (aR _)))) (fun _ _ _ _ _ => by exact (ab (ah 2))))))
theorem qG (T : Tx t) : bY P w K mg base cN 1 t.a_sign_ahead t.d_sign_ahead ["number", "is_first"] (cP K 2 gP) := by
 refine cK (N := ["number", "is_first"]) (W := []) T.F_sign_ahead qC dC fun cdv A outer s H E hr => ?_
 have hu := hr.units;exact (aj (cu (gn (ab (ah 1))) (ao (aZ (iN (br nG (ab (ah 0)) (ab af) (aR _)) (ab aJ) (ab aJ)))) bK)
   (ao (aZ (iN (br nG (ab (ah 0)) (ab af) (aR _)) (ab aJ) (ab aJ)))))
theorem nX (T : Tx t) : bY P w K mg base cN 1 t.a_signed_terms t.d_signed_terms ["text"] (cP K 1 fJ) := by
 refine cK (N := ["text", "signs", "terms", "word"]) (W := [1, 2, 3]) T.F_signed_terms sc_signed_terms dC fun cdv A outer s H E hr => ?_
 have hu := hr.units;exact (aj (bg 1 sc_signed_terms.nd (dB (aN (iN (gn (ls (ab (ah 0)) (ab aJ))) (ab (eQ af)) (ab af)) bO)))
   (aj (bg 2 sc_signed_terms.nd (dB (aN (dB bO) bO)))
   (aj (eA (by rfl) (jh (nA (iN (br (dX hu) (ab (cW (hs := dP) (ah 1) af)) (ab (eQ af)) (aR _)) (lw (ab (ah 0)) (g7 af) kc) (ab (ah 0))) (ab aJ))) (bW 3 sc_signed_terms.nd) (ao (cu (kI (hZ (br (dX hu) (ab (ah 3)) (ab aJ) (aR _)) (jg (br (dX hu) (ab (ah 3)) (ab aJ) (aR _))))) (aj (iW (mD 1 (iN (br (dX hu) (ab (ah 3)) (ab aJ) (aR _)) (ab af) (ab (eQ af)))))
   (ao (iW (mD 2 (dB bO))))) (ao (iW (AT (vP (ny 2) (eQ af)) (ah 3)))))) PassesOwn.never)
   (ao (aZ (vR (by rfl) (by rfl) T.b_list (by rfl) T.b_zip (aN (fH 1) (aN (fH 2) bO))))))))
theorem sG (T : Tx t) : bY P w K mg base cN 1 t.a_read_sign t.d_read_sign ["word"] (cP K 1 ig) := by
 refine cK (N := ["word"]) (W := []) T.F_read_sign rZ dC fun cdv A outer s H E hr => ?_
 have hu := hr.units;exact (aj (cu (br (dX hu) (ab (ah 0)) (ab aJ) (aR _)) (ao (aZ (ab aJ))) bK)
   (aj (cu (br (dX hu) (ab (ah 0)) (ab aJ) (aR _)) (ao (aZ (ab aJ))) bK)
   cr))
theorem xu (T : Tx t) : bY P w K mg base cN 1 t.a_lmixed t.d_lmixed ["_law_cell", "_law_k"] (cP K 2 kP) := by
 refine cK (N := ["_law_cell", "_law_k", "_law_number_here"]) (W := [2, 2]) T.F_lmixed sc_lmixed dC fun cdv A outer s H E hr => ?_
 have hu := hr.units;exact (aj (bg 2 sc_lmixed.nd (ab (bJ mH (bJ iO (bJ iO (bJ fZ (bJ mH (ah 0) af) af) (bJ fZ (ah 1) af)) af) af)))
   (aj (bg 2 sc_lmixed.nd (ab (bJ mH (bJ fZ (ah 2) (ah 2)) af)))
   (ao (aZ (ab (bJ mH (bJ fZ (ah 2) (ah 2)) af))))))
theorem sJ (T : Tx t) : bY P w K mg base cN 1 t.a_lpile t.d_lpile ["_law_script", "_law_k"] (cP K 2 kg) := by
 refine cK (N := ["_law_script", "_law_k", "_law_cell"]) (W := [2, 2]) T.F_lpile sc_lpile dC fun cdv A outer s H E hr => ?_
 have hu := hr.units;exact (aj (bg 2 sc_lpile.nd (ab af))
   (aj (cu (br nG (ab (ah 1)) (ab (dH (id := "len") ik (by rfl) T.b_len (by decide +kernel) (aM (ah 0) bF))) (aR _)) (ao (bg 2 sc_lpile.nd (ab (cW (ah 0) (ah 1))))) bK)
   (ao (aZ (dB (aN (ab (bJ fZ (ah 2) (mE (T := "int") q9 (by rfl) T.b_int (by decide +kernel) (aM (ly CJ (dH (id := "abs") rg (by rfl) T.b_abs (by decide +kernel) (aM (ah 2) bF)) (bJ qS af af) (aR _)) bF)))) (aN (ab (ah 2)) (aN (ab (bJ fZ af (ah 1))) bO))))))))
theorem yV (T : Tx t) : bY P w K mg base cN 1 t.a_lsame t.d_lsame ["_law_found", "_law_due"] (cP K 2 iZ) := by
 refine cK (N := ["_law_found", "_law_due"]) (W := []) T.F_lsame yD dC fun cdv A outer s H E hr => ?_
 have hu := hr.units;exact (aj (cu (kI (hZ (gJ (gn (ab (dH (id := "isinstance") oQ (by rfl) T.b_isinstance (by decide +kernel) (aM (ah 0) (aM (ir (T := "list") (by rfl) T.b_list (by decide +kernel)) bF)))))) (jg (uL (jV hu) (ah 0) (ah 1) (aR _))))) cr bK)
   (ao (aZ (xc (dX hu) (AO 1 (AN 0 (pI ["_law_found", "_law_due", "_law_one"] (jh (fH 0)) (fun _ _ _ _ _ => by exact (bW 2 (show List.Nodup (["_law_found", "_law_due", "_law_one"] : List Str) by decide +kernel))) (fun _ _ _ _ _ => by exact (pA (kI (hZ (gn (ab (dH (id := "isinstance") oQ (by rfl) T.b_isinstance (by decide +kernel) (aM (ah 2) (aM (ir (T := "bool") (by rfl) T.b_bool (by decide +kernel)) bF))))) (jg (gJ (gn (ab (dH (id := "isinstance") oQ (by rfl) T.b_isinstance (by decide +kernel) (aM (ah 2) (aM (ir (T := "int") (by rfl) T.b_int (by decide +kernel)) bF))))))))))) (fun _ _ _ _ _ => by exact (fH 2))))) (dB bO) (aR _)))))
theorem uo (T : Tx t) : bY P w K mg base cN 1 t.a_lletters t.d_lletters ["_law_group"] (cP K 1 iU) := by
 refine cK (N := ["_law_group"]) (W := []) T.F_lletters uh dC fun cdv A outer s H E hr => ?_
 have hu := hr.units;exact (ao (aZ (mC (ab aJ) (pI ["_law_group", "_law_name", "_law_letter"] (vQ (by rfl) T.b_enumerate (ab aJ)) (fun _ _ _ _ _ => by exact (ke (by rfl) (dw (bW 1 (show List.Nodup (["_law_group", "_law_name", "_law_letter"] : List Str) by decide +kernel)) (dw (bW 2 (show List.Nodup (["_law_group", "_law_name", "_law_letter"] : List Str) by decide +kernel)) iX)))) (fun _ _ _ _ _ => by exact (pA (br (dX hu) (ab (bJ zS (bJ El (ah 0) (ah 1)) af)) (ab af) (aR _)))) (fun _ _ _ _ _ => by exact (ab (ah 2)))))))
theorem nY (T : Tx t) : bY P w K mg base cN 2 t.a_row_of_terms t.d_row_of_terms ["n", "terms"] (cP K 2 fK) := by
 have G_all_names := ji (P := P) (w := w) (base := base) T;refine cK (N := ["n", "terms", "row", "group", "number"]) (W := [2, 3, 4]) T.F_row_of_terms sc_row_of_terms dC fun cdv A outer s H E hr => ?_
 have hu := hr.units;exact (aj (bg 2 sc_row_of_terms.nd (sn (dB (aN (ab af) bO)) (aB G_all_names (hr.mono dC) (by rfl) T.m_all_names T.F_all_names.kp T.n_all_names (aT 0 aP))))
   (aj (eA (by rfl) (jh (fH 1)) (ke (by rfl) (dw (bW 3 sc_row_of_terms.nd) (dw (bW 4 sc_row_of_terms.nd) iX))) (ao (cu (br (jV hu) (ab (ah 3)) (ab af) (aR _)) (ao (AL CI (ny 2) (bJ qR (ah 3) af) (ah 4))) bK)) PassesOwn.never)
   (ao (aZ (qP 2)))))
theorem kW (T : Tx t) : bY P w K mg base cN 2 t.a_show_group t.d_show_group ["group"] (cP K 1 fx) := by
 have G_names_in := um (P := P) (w := w) (base := base) T;refine cK (N := ["group"]) (W := []) T.F_show_group qD dC fun cdv A outer s H E hr => ?_
 have hu := hr.units;exact (ao (aZ (mC (ab aJ) (pI ["group", "name"] (jh (aB G_names_in (hr.mono dC) (by rfl) T.m_names_in T.F_names_in.kp T.n_names_in (ci (ab (uN (by rfl) T.c_MOST_NAMES)) (aT 0 aP)))) (fun _ _ _ _ _ => by exact (bW 1 (show List.Nodup (["group", "name"] : List Str) by decide +kernel))) (fun _ _ _ _ _ => by exact mB) (fun _ _ _ _ _ => by exact (ab (cW (ss (by rfl) T.c_LETTERS) (ah 1))))))))
theorem kY (T : Tx t) : bY P w K mg base cN 2 t.a_read_whole t.d_read_whole ["text"] (cP K 1 fy) := by
 have G_read_number := pF (P := P) (w := w) (base := base) T;refine cK (N := ["text", "number"]) (W := [1]) T.F_read_whole sc_read_whole dC fun cdv A outer s H E hr => ?_
 have hu := hr.units;exact (aj (bg 1 sc_read_whole.nd (aB G_read_number (hr.mono dC) (by rfl) T.m_read_number T.F_read_number.kp T.n_read_number (aT 0 aP)))
   (aj (cu (br CJ (ab (dH (id := "abs") rg (by rfl) T.b_abs (by decide +kernel) (aM (ah 1) bF))) (ab (bJ qS af af)) (aR _)) cr bK)
   (ao (aZ (ab (ah 1))))))
theorem nD (T : Tx t) : bY P w K mg base cN 2 t.a_ltake t.d_ltake ["_law_pile_here", "_law_many"] (cP K 2 eV) := by
 have G_lmixed := xu (P := P) (w := w) (base := base) T;refine cK (N := ["_law_pile_here", "_law_many", "_law_digit"]) (W := [2]) T.F_ltake sc_ltake dC fun cdv A outer s H E hr => ?_
 have hu := hr.units;exact (aj (cu (uL (Ft hu) (cW (hs := dP) (ah 0) af) (sr (aM af (aM (eQ af) bF))) (by rfl)) (aj (wW (ab (bJ iO (cW (hs := dP) (ah 0) af) af)) (wZ (ny 0) af))
   (ao (aZ (eE mH (aB G_lmixed (hr.mono dC) (by rfl) T.m_lmixed T.F_lmixed.kp T.n_lmixed (ci (ab (cW (hs := dP) (ah 0) af)) (ci (ab (cW (hs := dP) (ah 0) af)) aP))) (ab (ah 1)))))) bK)
   (aj (bg 2 sc_ltake.nd (ab (bJ mH (cW (hs := dP) (ah 0) af) (ah 1))))
   (aj (wW (ab (bJ Eo (cW (hs := dP) (ah 0) af) (ah 1))) (wZ (ny 0) af))
   (ao (aZ (ab (ah 2)))))))
theorem xr (T : Tx t) : bY P w K mg base cN 2 t.a_lshown t.d_lshown ["_law_row_here"] (cP K 1 kO) := by
 have G_lletters := uo (P := P) (w := w) (base := base) T;refine cK (N := ["_law_row_here", "_law_words", "_law_place", "_law_number_here", "_law_mark", "_law_text"]) (W := [1, 2, 3, 4, 5]) T.F_lshown sc_lshown dC fun cdv A outer s H E hr => ?_
 have hu := hr.units;exact (aj (bg 1 sc_lshown.nd (dB bO))
   (aj (eA (by rfl) (AM (by rfl) T.b_enumerate (fH 0)) (ke (by rfl) (dw (bW 2 sc_lshown.nd) (dw (bW 3 sc_lshown.nd) iX))) (ao (cu (br (jV hu) (ab (ah 3)) (ab af) (aR _)) (aj (bg 4 sc_lshown.nd (ab (cW (sr (aM aJ (aM aJ bF))) (mE (T := "int") q9 (by rfl) T.b_int (by decide +kernel) (aM (ly nG (ah 3) af (aR _)) bF)))))
   (ao (iW (mD 1 (eE gL (eE gL (ab (bJ gL (bJ gL (ah 4) (mE (T := "str") yc (by rfl) T.b_str (by decide +kernel) (aM (dH (id := "abs") rg (by rfl) T.b_abs (by decide +kernel) (aM (ah 3) bF)) bF))) aJ)) (aB G_lletters (hr.mono dC) (by rfl) T.m_lletters T.F_lletters.kp T.n_lletters (ci (ab (bJ iO (ah 2) af)) aP))) (ab aJ)))))) bK)) PassesOwn.never)
   (aj (bg 5 sc_lshown.nd (mC (ab aJ) (fH 1)))
   (aj (cu (br (dX hu) (ab (ah 5)) (ab aJ) (aR _)) (ao (aZ (ab aJ))) bK)
   (aj (cu (br (dX hu) (ab (cW (hs := dP) (ah 5) af)) (ab aJ) (aR _)) (ao (aZ (eE gL (ab aJ) (lw (ab (ah 5)) (g7 af) kc)))) bK)
   (ao (aZ (lw (ab (ah 5)) (g7 af) kc))))))))
theorem uk (T : Tx t) : bY P w K mg base cN 3 t.a_rest_row t.d_rest_row ["n", "a", "b"] (cP K 3 iR) := by
 have G_row_of_terms := nY (P := P) (w := w) (base := base) T;refine cK (N := ["n", "a", "b"]) (W := []) T.F_rest_row uf dC fun cdv A outer s H E hr => ?_
 have hu := hr.units;exact (ao (aZ (aB G_row_of_terms (hr.mono dC) (by rfl) T.m_row_of_terms T.F_row_of_terms.kp T.n_row_of_terms (aT 0 (ci (dB (aN (lr (aN (ab (bJ Fs (ah 1) (ah 2))) (aN (ab af) bO))) (aN (lr (aN (ab (ah 2)) (aN (ab (eQ af)) bO))) bO))) aP)))))
theorem sE (T : Tx t) : bY P w K mg base cN 3 t.a_show_term t.d_show_term ["group", "number"] (cP K 2 ic) := by
 have G_show_group := kW (P := P) (w := w) (base := base) T;refine cK (N := ["group", "number", "size", "letters"]) (W := [2, 3]) T.F_show_term sc_show_term dC fun cdv A outer s H E hr => ?_
 have hu := hr.units;exact (aj (bg 2 sc_show_term.nd (ab (dH (id := "abs") rg (by rfl) T.b_abs (by decide +kernel) (aM (ah 1) bF))))
   (aj (bg 3 sc_show_term.nd (aB G_show_group (hr.mono dC) (by rfl) T.m_show_group T.F_show_group.kp T.n_show_group (aT 0 aP)))
   (ao (aZ (zQ (fG (nV (ab (ah 2))) (fG (ab aJ) (fG (nV (ab (ah 3))) (fG (ab aJ) w5)))))))))
theorem qI (T : Tx t) : bY P w K mg base cN 3 t.a_read_count t.d_read_count ["text", "least"] (cP K 2 gS) := by
 have G_read_whole := kY (P := P) (w := w) (base := base) T;refine cK (N := ["text", "least", "number"]) (W := [2]) T.F_read_count sc_read_count dC fun cdv A outer s H E hr => ?_
 have hu := hr.units;exact (aj (bg 2 sc_read_count.nd (aB G_read_whole (hr.mono dC) (by rfl) T.m_read_whole T.F_read_whole.kp T.n_read_whole (aT 0 aP)))
   (aj (cu (br nG (ab (ah 2)) (ab (ah 1)) (aR _)) cr bK)
   (ao (aZ (ab (ah 2))))))
theorem kZ (T : Tx t) : bY P w K mg base cN 3 t.a_read_group t.d_read_group ["n", "text"] (cP K 2 fA) := by
 have G_all_names := ji (P := P) (w := w) (base := base) T;have G_show_group := kW (P := P) (w := w) (base := base) T;refine cK (N := ["n", "text", "group"]) (W := [2]) T.F_read_group sc_read_group dC fun cdv A outer s H E hr => ?_
 have hu := hr.units;exact (aj (eA (by rfl) (zP (by rfl) T.b_range (aN (ab af) (aN (eE iO (aB G_all_names (hr.mono dC) (by rfl) T.m_all_names T.F_all_names.kp T.n_all_names (aT 0 aP)) (ab af)) bO))) (bW 2 sc_read_group.nd) (ao (cu (br (dX hu) (aB G_show_group (hr.mono dC) (by rfl) T.m_show_group T.F_show_group.kp T.n_show_group (aT 2 aP)) (ab (ah 1)) (aR _)) (ao (aZ (ab (ah 2)))) bK)) PassesOwn.never)
   cr)
theorem nZ (T : Tx t) : bY P w K mg base cN 3 t.a_lnumber t.d_lnumber ["_law_pile_here"] (cP K 1 iy) := by
 have G_ltake := nD (P := P) (w := w) (base := base) T;refine cK (N := ["_law_pile_here", "_law_way", "_law_number_here", "_law_k"]) (W := [1, 2, 3, 2]) T.F_lnumber sc_lnumber dC fun cdv A outer s H E hr => ?_
 have hu := hr.units;exact (aj (bg 1 sc_lnumber.nd (aB G_ltake (hr.mono dC) (by rfl) T.m_ltake T.F_ltake.kp T.n_ltake (aT 0 (ci (ab af) aP))))
   (aj (cu (br (dX hu) (ab (ah 1)) (ab af) (aR _)) (aj (bg 2 sc_lnumber.nd (ab af))
   (aj (eA (by rfl) (qO (by rfl) T.b_range (aN (ab af) bO)) (bW 3 sc_lnumber.nd) (ao (bg 2 sc_lnumber.nd (eE iO (ab (bJ fZ (ah 2) (bJ qS af af))) (aB G_ltake (hr.mono dC) (by rfl) T.m_ltake T.F_ltake.kp T.n_ltake (aT 0 (ci (ab (bJ qS af af)) aP)))))) PassesOwn.never)
   (ao (aZ (qQ (dB (aN (ab (ah 2)) (aN (ab (eQ (ah 2))) bO))) (aB G_ltake (hr.mono dC) (by rfl) T.m_ltake T.F_ltake.kp T.n_ltake (aT 0 (ci (ab af) aP)))))))) bK)
   (aj (cu (br (dX hu) (ab (ah 1)) (ab af) (aR _)) (ao (aZ (eE qR (aB G_ltake (hr.mono dC) (by rfl) T.m_ltake T.F_ltake.kp T.n_ltake (aT 0 (ci (ab af) aP))) (ab af)))) bK)
   (ao (aZ (eE qR (aB G_ltake (hr.mono dC) (by rfl) T.m_ltake T.F_ltake.kp T.n_ltake (aT 0 (ci (ab af) aP))) (ab af)))))))
theorem uj (T : Tx t) : bY P w K mg base cN 4 t.a_show_row t.d_show_row ["n", "row"] (cP K 2 gQ) := by
 have G_show_term := sE (P := P) (w := w) (base := base) T;have G_sign_ahead := qG (P := P) (w := w) (base := base) T;refine cK (N := ["n", "row", "shown", "group", "number"]) (W := [2, 3, 4, 2]) T.F_show_row sc_show_row dC fun cdv A outer s H E hr => ?_
 have hu := hr.units;exact (aj (bg 2 sc_show_row.nd (ab aJ))
   (aj (eA (by rfl) (yM 1 (by rfl) T.b_enumerate (fH 1)) (ke (by rfl) (dw (bW 3 sc_show_row.nd) (dw (bW 4 sc_show_row.nd) iX))) (ao (cu (br (jV hu) (ab (ah 4)) (ab af) (aR _)) (ao (bg 2 sc_show_row.nd (eE gL (eE gL (ab (ah 2)) (aB G_sign_ahead (hr.mono dC) (by rfl) T.m_sign_ahead T.F_sign_ahead.kp T.n_sign_ahead (aT 4 (ci (ab (ly (dX hu) (ah 2) aJ (aR _))) aP)))) (aB G_show_term (hr.mono dC) (by rfl) T.m_show_term T.F_show_term.kp T.n_show_term (aT 3 (aT 4 aP)))))) bK)) PassesOwn.never)
   (ao (aZ (iN (br (jV hu) (ab (ah 2)) (ab aJ) (aR _)) (ab (ah 2)) (ab aJ))))))
theorem qH (T : Tx t) : bY P w K mg base cN 4 t.a_read_known t.d_read_known ["n", "parts"] (cP K 2 gR) := by
 have G_read_group := kZ (P := P) (w := w) (base := base) T;refine cK (N := ["n", "parts"]) (W := []) T.F_read_known qE dC fun cdv A outer s H E hr => ?_
 have hu := hr.units;exact (aj (cu (br yY (ab (dH (id := "len") ik (by rfl) T.b_len (by decide +kernel) (aM (ah 1) bF))) (ab af) (aR _)) cr bK)
   (ao (aZ (iN (br (dX hu) (ab (dH (id := "len") ik (by rfl) T.b_len (by decide +kernel) (aM (ah 1) bF))) (ab af) (aR _)) (aB G_read_group (hr.mono dC) (by rfl) T.m_read_group T.F_read_group.kp T.n_read_group (aT 0 (ci (qQ (fH 1) (ab af)) aP))) (ab af)))))
theorem Ba (T : Tx t) : bY P w K mg base cN 4 t.a_lrow t.d_lrow ["_law_script", "_law_start", "_law_n"] (cP K 3 ot) := by
 have G_lnumber := nZ (P := P) (w := w) (base := base) T;have G_lpile := sJ (P := P) (w := w) (base := base) T;have G_ltake := nD (P := P) (w := w) (base := base) T;refine cK (N := ["_law_script", "_law_start", "_law_n", "_law_row_here", "_law_g", "_law_pile_here"]) (W := [3, 4, 5]) T.F_lrow sc_lrow dC fun cdv A outer s H E hr => ?_
 have hu := hr.units;exact (aj (bg 3 sc_lrow.nd (dB bO))
   (aj (eA (by rfl) (zP (by rfl) T.b_range (aN (ab af) (aN (ab (bJ vZ af (ah 2))) bO))) (bW 4 sc_lrow.nd) (aj (bg 5 sc_lrow.nd (aB G_lpile (hr.mono dC) (by rfl) T.m_lpile T.F_lpile.kp T.n_lpile (aT 0 (ci (ab (bJ iO (ah 1) (ah 4))) aP))))
   (ao (iW (mD 3 (eE fZ (aB G_lnumber (hr.mono dC) (by rfl) T.m_lnumber T.F_lnumber.kp T.n_lnumber (aT 5 aP)) (DX (T := "int") q9 (by rfl) T.b_int (by decide +kernel) (aN (xc yY (aB G_ltake (hr.mono dC) (by rfl) T.m_ltake T.F_ltake.kp T.n_ltake (aT 5 (ci (ab af) aP))) (ab af) (aR _)) bO))))))) PassesOwn.never)
   (ao (aZ (qP 3)))))
theorem pD (T : Tx t) : bY P w K mg base cN 5 t.a_show_saying t.d_show_saying ["n", "saying"] (cP K 2 gb) := by
 have G_show_row := uj (P := P) (w := w) (base := base) T;refine cK (N := ["n", "saying", "row", "sign", "number"]) (W := [2, 3, 4]) T.F_show_saying sc_show_saying dC fun cdv A outer s H E hr => ?_
 have hu := hr.units;exact (aj (bg 2 sc_show_saying.nd (w6 (nC 1 (pC (.int 0))) (so G_show_row (hr.mono dC) (by rfl) T.m_show_row T.F_show_row.kp T.n_show_row (wY 0 (wX 1 (ny 1) af uM))) (aB G_show_row (hr.mono dC) (by rfl) T.m_show_row T.F_show_row.kp T.n_show_row (aT 0 (ci (qQ (fH 1) (ab af)) aP)))))
   (aj (bg 3 sc_show_saying.nd (iN (br (dX hu) (ab (cW (hs := dP) (ah 1) af)) (ab aJ) (aR _)) (ab aJ) (ab aJ)))
   (aj (bg 4 sc_show_saying.nd (ab (cW (hs := dP) (ah 1) af)))
   (ao (aZ (zQ (fG (nV (ab (ah 2))) (fG (ab aJ) (fG (nV (ab (ah 3))) (fG (ab aJ) (fG (nV (ab (ah 4))) w5)))))))))))
theorem sH (T : Tx t) : bY P w K mg base cN 5 t.a_read_rest t.d_read_rest ["n", "text"] (cP K 2 ii) := by
 have G_read_group := kZ (P := P) (w := w) (base := base) T;have G_read_known := qH (P := P) (w := w) (base := base) T;have G_rest_row := uk (P := P) (w := w) (base := base) T;refine cK (N := ["n", "text", "parts", "known"]) (W := [2, 3]) T.F_read_rest sc_read_rest dC fun cdv A outer s H E hr => ?_
 have hu := hr.units;exact (aj (bg 2 sc_read_rest.nd (nA (ab (ah 1)) (ab aJ)))
   (aj (bg 3 sc_read_rest.nd (aB G_read_known (hr.mono dC) (by rfl) T.m_read_known T.F_read_known.kp T.n_read_known (aT 0 (aT 2 aP))))
   (ao (aZ (aB G_rest_row (hr.mono dC) (by rfl) T.m_rest_row T.F_rest_row.kp T.n_rest_row (aT 0 (ci (aB G_read_group (hr.mono dC) (by rfl) T.m_read_group T.F_read_group.kp T.n_read_group (aT 0 (ci (ab (cW (hs := dP) (ah 2) af)) aP))) (aT 3 aP))))))))
theorem sI (T : Tx t) : bY P w K mg base cN 6 t.a_read_form t.d_read_form ["n", "text"] (cP K 2 ij) := by
 have G_read_rest := sH (P := P) (w := w) (base := base) T;refine cK (N := ["n", "text"]) (W := []) T.F_read_form sd dC fun cdv A outer s H E hr => ?_
 have hu := hr.units;exact (aj (cu (kI (wU (gn (ls (ab (ah 1)) (ab aJ))) (uK (gn (AQ (ab (ah 1)) (ab aJ)))))) (ao (aZ (aB G_read_rest (hr.mono dC) (by rfl) T.m_read_rest T.F_read_rest.kp T.n_read_rest (aT 0 (ci (lw (ab (ah 1)) (g7 af) (g7 (eQ af))) aP))))) bK)
   cr)
theorem sF (T : Tx t) : bY P w K mg base cN 7 t.a_read_term t.d_read_term ["n", "sign", "words"] (cP K 3 ie) := by
 have G_read_count := qI (P := P) (w := w) (base := base) T;have G_read_form := sI (P := P) (w := w) (base := base) T;refine cK (N := ["n", "sign", "words", "number"]) (W := [3]) T.F_read_term sc_read_term dC fun cdv A outer s H E hr => ?_
 have hu := hr.units;exact (aj (cu (br (dX hu) (ab (dH (id := "len") ik (by rfl) T.b_len (by decide +kernel) (aM (ah 2) bF))) (ab af) (aR _)) cr (ao (cu (br (dX hu) (ab (dH (id := "len") ik (by rfl) T.b_len (by decide +kernel) (aM (ah 2) bF))) (ab af) (aR _)) (ao (bg 3 sc_read_term.nd (eE fZ (ab (ah 1)) (aB G_read_count (hr.mono dC) (by rfl) T.m_read_count T.F_read_count.kp T.n_read_count (ci (ab (cW (hs := dP) (ah 2) af)) (ci (ab af) aP)))))) cr)))
   (ao (aZ (pI ["n", "sign", "words", "number", "x"] (jh (aB G_read_form (hr.mono dC) (by rfl) T.m_read_form T.F_read_form.kp T.n_read_form (aT 0 (ci (ab (cW (ah 2) (eQ af))) aP)))) (fun _ _ _ _ _ => by exact (bW 4 (show List.Nodup (["n", "sign", "words", "number", "x"] : List Str) by decide +kernel))) (fun _ _ _ _ _ => by exact mB) (fun _ _ _ _ _ => by exact (ab (bJ fZ (ah 3) (ah 4))))))))
theorem ul (T : Tx t) : bY P w K mg base cN 8 t.a_read_row t.d_read_row ["n", "text"] (cP K 2 iS) := by
 have G_all_names := ji (P := P) (w := w) (base := base) T;have G_read_term := sF (P := P) (w := w) (base := base) T;have G_signed_terms := nX (P := P) (w := w) (base := base) T;refine cK (N := ["n", "text", "row", "sign", "words"]) (W := [2, 3, 4, 2]) T.F_read_row sc_read_row dC fun cdv A outer s H E hr => ?_
 have hu := hr.units;exact (aj (bg 2 sc_read_row.nd (sn (dB (aN (ab af) bO)) (aB G_all_names (hr.mono dC) (by rfl) T.m_all_names T.F_all_names.kp T.n_all_names (aT 0 aP))))
   (aj (cu (br (dX hu) (ab (ah 1)) (ab aJ) (aR _)) (ao (aZ (qP 2))) bK)
   (aj (eA (by rfl) (jh (aB G_signed_terms (hr.mono dC) (by rfl) T.m_signed_terms T.F_signed_terms.kp T.n_signed_terms (aT 1 aP))) (ke (by rfl) (dw (bW 3 sc_read_row.nd) (dw (bW 4 sc_read_row.nd) iX))) (ao (Fu 2 ["n", "text", "row", "sign", "words", "old", "number"] sc_read_row.nd (B9 (by rfl) T.b_zip (fH 2) (aB G_read_term (hr.mono dC) (by rfl) T.m_read_term T.F_read_term.kp T.n_read_term (aT 0 (aT 3 (aT 4 aP))))) (fun _ _ _ _ _ => by exact (ke (by rfl) (dw (bW 5 (show List.Nodup (["n", "text", "row", "sign", "words", "old", "number"] : List Str) by decide +kernel)) (dw (bW 6 (show List.Nodup (["n", "text", "row", "sign", "words", "old", "number"] : List Str) by decide +kernel)) iX)))) (fun _ _ _ _ _ => by exact mB) (fun _ _ _ _ _ => by exact (ab (bJ iO (ah 5) (ah 6)))))) PassesOwn.never)
   (ao (aZ (qP 2))))))
theorem pE (T : Tx t) : bY P w K mg base cN 9 t.a_read_saying t.d_read_saying ["n", "text"] (cP K 2 gc) := by
 have G_read_row := ul (P := P) (w := w) (base := base) T;have G_read_sign := sG (P := P) (w := w) (base := base) T;have G_read_whole := kY (P := P) (w := w) (base := base) T;refine cK (N := ["n", "text", "words"]) (W := [2]) T.F_read_saying sc_read_saying dC fun cdv A outer s H E hr => ?_
 have hu := hr.units;exact (aj (bg 2 sc_read_saying.nd (nA (ab (ah 1)) (ab aJ)))
   (aj (cu (br nG (ab (dH (id := "len") ik (by rfl) T.b_len (by decide +kernel) (aM (ah 2) bF))) (ab af) (aR _)) cr bK)
   (ao (aZ (lr (aN (aB G_read_row (hr.mono dC) (by rfl) T.m_read_row T.F_read_row.kp T.n_read_row (aT 0 (ci (mC (ab aJ) (Cc (ah 2) kc (g7 (eQ af)))) aP))) (aN (aB G_read_sign (hr.mono dC) (by rfl) T.m_read_sign T.F_read_sign.kp T.n_read_sign (ci (ab (cW (ah 2) (eQ af))) aP)) (aN (aB G_read_whole (hr.mono dC) (by rfl) T.m_read_whole T.F_read_whole.kp T.n_read_whole (ci (ab (cW (ah 2) (eQ af))) aP)) bO))))))))
theorem xt (T : Tx t) : bY P w K mg base cN 10 t.a_lright t.d_lright ["_law_n", "_law_row_here", "_law_sign", "_law_number_here"] (cP K 4 jv) := by
 have G_lsame := yV (P := P) (w := w) (base := base) T;have G_lshown := xr (P := P) (w := w) (base := base) T;have G_read_saying := pE (P := P) (w := w) (base := base) T;have G_show_saying := pD (P := P) (w := w) (base := base) T;refine cK (N := ["_law_n", "_law_row_here", "_law_sign", "_law_number_here", "_law_handed", "_law_text", "_law_time", "_law_found"]) (W := [4, 5, 6, 7]) T.F_lright sc_lright dC fun cdv A outer s H E hr => ?_
 have hu := hr.units;exact (aj (bg 4 sc_lright.nd (lr (aN (yN (by rfl) T.b_list (by decide +kernel) (ah 1)) (aN (ab (ah 2)) (aN (ab (ah 3)) bO)))))
   (aj (bg 5 sc_lright.nd (aB G_show_saying (hr.mono dC) (by rfl) T.m_show_saying T.F_show_saying.kp T.n_show_saying (aT 0 (aT 4 aP))))
   (aj (cu (kI (hZ (gJ (gn (ab (dH (id := "isinstance") oQ (by rfl) T.b_isinstance (by decide +kernel) (aM (ah 5) (aM (ir (T := "str") (by rfl) T.b_str (by decide +kernel)) bF)))))) (jg (br (jV hu) (ab (ah 5)) (eE gL (eE gL (aB G_lshown (hr.mono dC) (by rfl) T.m_lshown T.F_lshown.kp T.n_lshown (aT 1 aP)) (ab (cW (sr (aM aJ (aM aJ bF))) (mE (T := "int") q9 (by rfl) T.b_int (by decide +kernel) (aM (ly (dX hu) (ah 2) aJ (aR _)) bF))))) (ab (mE (T := "str") yc (by rfl) T.b_str (by decide +kernel) (aM (ah 3) bF)))) (aR _))))) cr bK)
   (aj (eA (by rfl) (qO (by rfl) T.b_range (aN (ab af) bO)) (bW 6 sc_lright.nd) (aj (bg 7 sc_lright.nd (aB G_read_saying (hr.mono dC) (by rfl) T.m_read_saying T.F_read_saying.kp T.n_read_saying (aT 0 (aT 5 aP))))
   (aj (cu (kI (hZ (gJ (gn (ab (dH (id := "isinstance") oQ (by rfl) T.b_isinstance (by decide +kernel) (aM (ah 7) (aM (ir (T := "tuple") (by rfl) T.b_tuple (by decide +kernel)) bF)))))) (hZ (br (jV hu) (ab (dH (id := "len") ik (by rfl) T.b_len (by decide +kernel) (aM (ah 7) bF))) (ab af) (aR _)) (hZ (gJ (gn (w6 (nC 7 (pC (.int 0))) (so G_lsame (hr.mono dC) (by rfl) T.m_lsame T.F_lsame.kp T.n_lsame (wX 7 (ny 7) af (wY 1 uM))) (aB G_lsame (hr.mono dC) (by rfl) T.m_lsame T.F_lsame.kp T.n_lsame (ci (qQ (fH 7) (ab af)) (aT 1 aP)))))) (jg (br (jV hu) (ab (cW (hs := dP) (ah 7) af)) (ab (ah 2)) (aR _))))))) cr bK)
   (aj (cu (gJ (gn (aB G_lsame (hr.mono dC) (by rfl) T.m_lsame T.F_lsame.kp T.n_lsame (ci (dB (aN (ab (cW (hs := dP) (ah 7) af)) bO)) (ci (dB (aN (ab (ah 3)) bO)) aP))))) cr bK)
   (ao (iW (AS (vP (ny 7) af))))))) PassesOwn.never)
   (ao (aZ (AR 4 (dX hu) (lr (aN (fH 1) (aN (ab (ah 2)) (aN (ab (ah 3)) bO)))) (aR _))))))))
theorem CG (T : Tx t) {f : Addr} {fd : FuncData} (F : Fun K "law" "law" nU f fd) : bY P w K mg base cN 11 f fd ["_law_script"] (cP K 1 jK) := by
 have G_lnumber := nZ (P := P) (w := w) (base := base) T;have G_lpile := sJ (P := P) (w := w) (base := base) T;have G_lright := xt (P := P) (w := w) (base := base) T;have G_lrow := Ba (P := P) (w := w) (base := base) T;have G_ltake := nD (P := P) (w := w) (base := base) T;refine cK (N := ["_law_script", "_law_turn", "_law_pile_here", "_law_n", "_law_row_here", "_law_number_here", "_law_sign"]) (W := [1, 2, 3, 4, 5, 6]) F sc_law dC fun cdv A outer s H E hr => ?_
 have hu := hr.units;exact (aj (eA (by rfl) (qO (by rfl) T.b_range (aN (ab af) bO)) (bW 1 sc_law.nd) (aj (bg 2 sc_law.nd (aB G_lpile (hr.mono dC) (by rfl) T.m_lpile T.F_lpile.kp T.n_lpile (aT 0 (ci (ab (bJ fZ af (ah 1))) aP))))
   (aj (bg 3 sc_law.nd (eE iO (ab af) (aB G_ltake (hr.mono dC) (by rfl) T.m_ltake T.F_ltake.kp T.n_ltake (aT 2 (ci (ab af) aP)))))
   (aj (bg 4 sc_law.nd (aB G_lrow (hr.mono dC) (by rfl) T.m_lrow T.F_lrow.kp T.n_lrow (aT 0 (ci (ab (bJ fZ af (ah 1))) (aT 3 aP)))))
   (aj (bg 5 sc_law.nd (aB G_lnumber (hr.mono dC) (by rfl) T.m_lnumber T.F_lnumber.kp T.n_lnumber (aT 2 aP)))
   (ao (eA (by rfl) (jh (dB (aN (ab aJ) (aN (ab aJ) bO)))) (bW 6 sc_law.nd) (ao (cu (kI (hZ (gJ (gn (aB G_lright (hr.mono dC) (by rfl) T.m_lright T.F_lright.kp T.n_lright (aT 3 (aT 4 (aT 6 (aT 5 aP))))))) (jg (gJ (gn (aB G_lright (hr.mono dC) (by rfl) T.m_lright T.F_lright.kp T.n_lright (aT 3 (ci (sn (dB (aN (ab af) bO)) (ab (dH (id := "len") ik (by rfl) T.b_len (by decide +kernel) (aM (ah 4) bF)))) (aT 6 (aT 5 aP)))))))))) cr bK)) PassesOwn.never)))))) PassesOwn.never)
   (ao (aZ (ab D0))))
end
noncomputable abbrev dh (K : PySem.W.Frag) (x : Str) (f : Addr) : Prop := nsIn K mainGlobals x = some (some (.ref f))
noncomputable abbrev dl (K : PySem.W.Frag) (c : Value) (x : Str) : Prop := codeIn K c x = true
noncomputable abbrev dj (K : PySem.W.Frag) (f : Addr) : Prop := keepIn K (.ref f) = true
noncomputable abbrev bA (x : Str) (s : Stmt) (k d p : Value) (a : Option Addr) (c t : Value) : FuncData := fnOf x x (km s) (hB s) (ax s) .none k d p a c t
noncomputable abbrev di (K : PySem.W.Frag) (f : Addr) (o : Value) (d : Option Addr) (F : FuncData) (s : Array (Option Value)) : Prop := K.lookup f = some ⟨o, d, .func F, s⟩
theorem Dk {l : PySem.W.OpenLaw} {w : World} {K : PySem.W.Frag} {h : Heap} {mg : Str -> Option Value} {fa : Addr} (X : K.In h) (G : h.Ns mainGlobals mg) (hfa : mg "law" = some (.ref fa))
 {f0 f1 f2 f3 f4 f5 f6 f7 f8 f9 f10 f11 f12 f13 f14 f15 f16 f17 f18 f19 f20 f21 f22 f23 f24 f25 f26 f27 f28 f29 f30 f31 f32 f33 : Addr} {od0 an0 od1 an1 od2 an2 od3 an3 od4 an4 od5 an5 od6 an6 od7 an7 od8 an8 od9 an9 od10 an10 od11 an11 od12 an12 od13 an13 od14 an14 od15 an15 od16 an16 od17 an17 od18 an18 od19 an19 od20 an20 od21 an21 od22 an22 od23 an23 od24 an24 od25 an25 od26 an26 od27 an27 od28 an28 od29 an29 od30 an30 od31 an31 od32 an32 od33 an33 : Option Addr} {sl0 sl1 sl2 sl3 sl4 sl5 sl6 sl7 sl8 sl9 sl10 sl11 sl12 sl13 sl14 sl15 sl16 sl17 sl18 sl19 sl20 sl21 sl22 sl23 sl24 sl25 sl26 sl27 sl28 sl29 sl30 sl31 sl32 sl33 : Array (Option Value)} {oc0 kV0 dc0 pm0 cd0 ct0 oc1 kV1 dc1 pm1 cd1 ct1 oc2 kV2 dc2 pm2 cd2 ct2 oc3 kV3 dc3 pm3 cd3 ct3 oc4 kV4 dc4 pm4 cd4 ct4 oc5 kV5 dc5 pm5 cd5 ct5 oc6 kV6 dc6 pm6 cd6 ct6 oc7 kV7 dc7 pm7 cd7 ct7 oc8 kV8 dc8 pm8 cd8 ct8 oc9 kV9 dc9 pm9 cd9 ct9 oc10 kV10 dc10 pm10 cd10 ct10 oc11 kV11 dc11 pm11 cd11 ct11 oc12 kV12 dc12 pm12 cd12 ct12 oc13 kV13 dc13 pm13 cd13 ct13 oc14 kV14 dc14 pm14 cd14 ct14 oc15 kV15 dc15 pm15 cd15 ct15 oc16 kV16 dc16 pm16 cd16 ct16 oc17 kV17 dc17 pm17 cd17 ct17 oc18 kV18 dc18 pm18 cd18 ct18 oc19 kV19 dc19 pm19 cd19 ct19 oc20 kV20 dc20 pm20 cd20 ct20 oc21 kV21 dc21 pm21 cd21 ct21 oc22 kV22 dc22 pm22 cd22 ct22 oc23 kV23 dc23 pm23 cd23 ct23 oc24 kV24 dc24 pm24 cd24 ct24 oc25 kV25 dc25 pm25 cd25 ct25 oc26 kV26 dc26 pm26 cd26 ct26 oc27 kV27 dc27 pm27 cd27 ct27 oc28 kV28 dc28 pm28 cd28 ct28 oc29 kV29 dc29 pm29 cd29 ct29 oc30 kV30 dc30 pm30 cd30 ct30 oc31 kV31 dc31 pm31 cd31 ct31 oc32 kV32 dc32 pm32 cd32 ct32 oc33 kV33 dc33 pm33 cd33 ct33 : Value}
  (a0 : dh K "read_number" f0) (l0 : di K f0 oc0 od0 (bA "read_number" eP kV0 dc0 pm0 an0 cd0 ct0) sl0) (c0 : dl K cd0 "read_number") (k0 : dj K f0)
  (a1 : dh K "in_two" f1) (l1 : di K f1 oc1 od1 (bA "in_two" kH kV1 dc1 pm1 an1 cd1 ct1) sl1) (c1 : dl K cd1 "in_two") (k1 : dj K f1)
  (a2 : dh K "all_names" f2) (l2 : di K f2 oc2 od2 (bA "all_names" fU kV2 dc2 pm2 an2 cd2 ct2) sl2) (c2 : dl K cd2 "all_names") (k2 : dj K f2)
  (a3 : dh K "names_in" f3) (l3 : di K f3 oc3 od3 (bA "names_in" gG kV3 dc3 pm3 an3 cd3 ct3) sl3) (c3 : dl K cd3 "names_in") (k3 : dj K f3)
  (a4 : dh K "sign_ahead" f4) (l4 : di K f4 oc4 od4 (bA "sign_ahead" eZ kV4 dc4 pm4 an4 cd4 ct4) sl4) (c4 : dl K cd4 "sign_ahead") (k4 : dj K f4)
  (a5 : dh K "signed_terms" f5) (l5 : di K f5 oc5 od5 (bA "signed_terms" ey kV5 dc5 pm5 an5 cd5 ct5) sl5) (c5 : dl K cd5 "signed_terms") (k5 : dj K f5)
  (a6 : dh K "read_sign" f6) (l6 : di K f6 oc6 od6 (bA "read_sign" fR kV6 dc6 pm6 an6 cd6 ct6) sl6) (c6 : dl K cd6 "read_sign") (k6 : dj K f6)
  (a7 : dh K "_law_mixed" f7) (l7 : di K f7 oc7 od7 (bA "_law_mixed" je kV7 dc7 pm7 an7 cd7 ct7) sl7) (c7 : dl K cd7 "_law_mixed") (k7 : dj K f7)
  (a8 : dh K "_law_pile" f8) (l8 : di K f8 oc8 od8 (bA "_law_pile" j9 kV8 dc8 pm8 an8 cd8 ct8) sl8) (c8 : dl K cd8 "_law_pile") (k8 : dj K f8)
  (a9 : dh K "_law_same" f9) (l9 : di K f9 oc9 od9 (bA "_law_same" j8 kV9 dc9 pm9 an9 cd9 ct9) sl9) (c9 : dl K cd9 "_law_same") (k9 : dj K f9)
  (a10 : dh K "_law_letters" f10) (l10 : di K f10 oc10 od10 (bA "_law_letters" gH kV10 dc10 pm10 an10 cd10 ct10) sl10) (c10 : dl K cd10 "_law_letters") (k10 : dj K f10)
  (a11 : dh K "row_of_terms" f11) (l11 : di K f11 oc11 od11 (bA "row_of_terms" ez kV11 dc11 pm11 an11 cd11 ct11) sl11) (c11 : dl K cd11 "row_of_terms") (k11 : dj K f11)
  (a12 : dh K "show_group" f12) (l12 : di K f12 oc12 od12 (bA "show_group" e7 kV12 dc12 pm12 an12 cd12 ct12) sl12) (c12 : dl K cd12 "show_group") (k12 : dj K f12)
  (a13 : dh K "read_whole" f13) (l13 : di K f13 oc13 od13 (bA "read_whole" e8 kV13 dc13 pm13 an13 cd13 ct13) sl13) (c13 : dl K cd13 "read_whole") (k13 : dj K f13)
  (a14 : dh K "_law_take" f14) (l14 : di K f14 oc14 od14 (bA "_law_take" j7 kV14 dc14 pm14 an14 cd14 ct14) sl14) (c14 : dl K cd14 "_law_take") (k14 : dj K f14)
  (a15 : dh K "_law_shown" f15) (l15 : di K f15 oc15 od15 (bA "_law_shown" ja kV15 dc15 pm15 an15 cd15 ct15) sl15) (c15 : dl K cd15 "_law_shown") (k15 : dj K f15)
  (a16 : dh K "rest_row" f16) (l16 : di K f16 oc16 od16 (bA "rest_row" gE kV16 dc16 pm16 an16 cd16 ct16) sl16) (c16 : dl K cd16 "rest_row") (k16 : dj K f16)
  (a17 : dh K "shared_row" f17) (l17 : di K f17 oc17 od17 (bA "shared_row" gD kV17 dc17 pm17 an17 cd17 ct17) sl17) (c17 : dl K cd17 "shared_row") (k17 : dj K f17)
  (a18 : dh K "show_term" f18) (l18 : di K f18 oc18 od18 (bA "show_term" fP kV18 dc18 pm18 an18 cd18 ct18) sl18) (c18 : dl K cd18 "show_term") (k18 : dj K f18)
  (a19 : dh K "read_count" f19) (l19 : di K f19 oc19 od19 (bA "read_count" fk kV19 dc19 pm19 an19 cd19 ct19) sl19) (c19 : dl K cd19 "read_count") (k19 : dj K f19)
  (a20 : dh K "read_group" f20) (l20 : di K f20 oc20 od20 (bA "read_group" fj kV20 dc20 pm20 an20 cd20 ct20) sl20) (c20 : dl K cd20 "read_group") (k20 : dj K f20)
  (a21 : dh K "_law_number" f21) (l21 : di K f21 oc21 od21 (bA "_law_number" iq kV21 dc21 pm21 an21 cd21 ct21) sl21) (c21 : dl K cd21 "_law_number") (k21 : dj K f21)
  (a22 : dh K "show_row" f22) (l22 : di K f22 oc22 od22 (bA "show_row" gC kV22 dc22 pm22 an22 cd22 ct22) sl22) (c22 : dl K cd22 "show_row") (k22 : dj K f22)
  (a23 : dh K "read_known" f23) (l23 : di K f23 oc23 od23 (bA "read_known" fg kV23 dc23 pm23 an23 cd23 ct23) sl23) (c23 : dl K cd23 "read_known") (k23 : dj K f23)
  (a24 : dh K "_law_row" f24) (l24 : di K f24 oc24 od24 (bA "_law_row" lj kV24 dc24 pm24 an24 cd24 ct24) sl24) (c24 : dl K cd24 "_law_row") (k24 : dj K f24)
  (a25 : dh K "show_saying" f25) (l25 : di K f25 oc25 od25 (bA "show_saying" eN kV25 dc25 pm25 an25 cd25 ct25) sl25) (c25 : dl K cd25 "show_saying") (k25 : dj K f25)
  (a26 : dh K "read_rest" f26) (l26 : di K f26 oc26 od26 (bA "read_rest" fS kV26 dc26 pm26 an26 cd26 ct26) sl26) (c26 : dl K cd26 "read_rest") (k26 : dj K f26)
  (a27 : dh K "read_shared" f27) (l27 : di K f27 oc27 od27 (bA "read_shared" fY kV27 dc27 pm27 an27 cd27 ct27) sl27) (c27 : dl K cd27 "read_shared") (k27 : dj K f27)
  (a28 : dh K "read_form" f28) (l28 : di K f28 oc28 od28 (bA "read_form" fT kV28 dc28 pm28 an28 cd28 ct28) sl28) (c28 : dl K cd28 "read_form") (k28 : dj K f28)
  (a29 : dh K "read_term" f29) (l29 : di K f29 oc29 od29 (bA "read_term" fQ kV29 dc29 pm29 an29 cd29 ct29) sl29) (c29 : dl K cd29 "read_term") (k29 : dj K f29)
  (a30 : dh K "read_row" f30) (l30 : di K f30 oc30 od30 (bA "read_row" gF kV30 dc30 pm30 an30 cd30 ct30) sl30) (c30 : dl K cd30 "read_row") (k30 : dj K f30)
  (a31 : dh K "read_saying" f31) (l31 : di K f31 oc31 od31 (bA "read_saying" eO kV31 dc31 pm31 an31 cd31 ct31) sl31) (c31 : dl K cd31 "read_saying") (k31 : dj K f31)
  (a32 : dh K "_law_right" f32) (l32 : di K f32 oc32 od32 (bA "_law_right" jb kV32 dc32 pm32 an32 cd32 ct32) sl32) (c32 : dl K cd32 "_law_right") (k32 : dj K f32)
  (a33 : dh K "law" f33) (l33 : di K f33 oc33 od33 (bA "law" nU kV33 dc33 pm33 an33 cd33 ct33) sl33) (c33 : dl K cd33 "law") (k33 : dj K f33)
  (z_abs : nsIn K mainGlobals "abs" = some none)
  (z_all : nsIn K mainGlobals "all" = some none)
  (z_bool : nsIn K mainGlobals "bool" = some none)
  (z_enumerate : nsIn K mainGlobals "enumerate" = some none)
  (z_int : nsIn K mainGlobals "int" = some none)
  (z_isinstance : nsIn K mainGlobals "isinstance" = some none)
  (z_len : nsIn K mainGlobals "len" = some none)
  (z_list : nsIn K mainGlobals "list" = some none)
  (z_range : nsIn K mainGlobals "range" = some none)
  (z_str : nsIn K mainGlobals "str" = some none)
  (z_tuple : nsIn K mainGlobals "tuple" = some none)
  (z_zip : nsIn K mainGlobals "zip" = some none)
  {t_FIGURES : Tok} (v_FIGURES : nsIn K mainGlobals "FIGURES" = some (some (.str "0123456789" t_FIGURES)))
  {t_LETTERS : Tok} (v_LETTERS : nsIn K mainGlobals "LETTERS" = some (some (.str "abcd" t_LETTERS)))
  {t_MOST_FIGURES : Tok} (v_MOST_FIGURES : nsIn K mainGlobals "MOST_FIGURES" = some (some (.int 2000 t_MOST_FIGURES)))
  {t_MOST_NAMES : Tok} (v_MOST_NAMES : nsIn K mainGlobals "MOST_NAMES" = some (some (.int 4 t_MOST_NAMES)))
  : ∃ fd : FuncData, (∀ (s : Shared) (v : Value), BindsTo s fd ⟨[v], []⟩ [("_law_script", v)]) /\ ∀ base : Heap, K.In base -> base.Ns mainGlobals mg -> bY l.prog w K mg base cN 11 fa fd ["_law_script"] (cP K 1 jK) := by
 have e := hfa.symm.trans (mg_of X G a33);cases e;have F0 := bz (st := eP) l0 c0 k0;have b0 := F0.binds (ps := ["text"]) fun _ _ _ _ _ _ us hl => by rcases us with _ | ⟨_, _ | ⟨_, us⟩⟩ <;> first | rfl | (simp at hl) | cases hl
 have F1 := bz (st := kH) l1 c1 k1;have b1 := F1.binds (ps := ["text", "sign"]) fun _ _ _ _ _ _ us hl => by rcases us with _ | ⟨_, _ | ⟨_, _ | ⟨_, us⟩⟩⟩ <;> first | rfl | (simp at hl) | cases hl
 have F2 := bz (st := fU) l2 c2 k2;have b2 := F2.binds (ps := ["n"]) fun _ _ _ _ _ _ us hl => by rcases us with _ | ⟨_, _ | ⟨_, us⟩⟩ <;> first | rfl | (simp at hl) | cases hl
 have F3 := bz (st := gG) l3 c3 k3;have b3 := F3.binds (ps := ["n", "group"]) fun _ _ _ _ _ _ us hl => by rcases us with _ | ⟨_, _ | ⟨_, _ | ⟨_, us⟩⟩⟩ <;> first | rfl | (simp at hl) | cases hl
 have F4 := bz (st := eZ) l4 c4 k4;have b4 := F4.binds (ps := ["number", "is_first"]) fun _ _ _ _ _ _ us hl => by rcases us with _ | ⟨_, _ | ⟨_, _ | ⟨_, us⟩⟩⟩ <;> first | rfl | (simp at hl) | cases hl
 have F5 := bz (st := ey) l5 c5 k5;have b5 := F5.binds (ps := ["text"]) fun _ _ _ _ _ _ us hl => by rcases us with _ | ⟨_, _ | ⟨_, us⟩⟩ <;> first | rfl | (simp at hl) | cases hl
 have F6 := bz (st := fR) l6 c6 k6;have b6 := F6.binds (ps := ["word"]) fun _ _ _ _ _ _ us hl => by rcases us with _ | ⟨_, _ | ⟨_, us⟩⟩ <;> first | rfl | (simp at hl) | cases hl
 have F7 := bz (st := je) l7 c7 k7;have b7 := F7.binds (ps := ["_law_cell", "_law_k"]) fun _ _ _ _ _ _ us hl => by rcases us with _ | ⟨_, _ | ⟨_, _ | ⟨_, us⟩⟩⟩ <;> first | rfl | (simp at hl) | cases hl
 have F8 := bz (st := j9) l8 c8 k8;have b8 := F8.binds (ps := ["_law_script", "_law_k"]) fun _ _ _ _ _ _ us hl => by rcases us with _ | ⟨_, _ | ⟨_, _ | ⟨_, us⟩⟩⟩ <;> first | rfl | (simp at hl) | cases hl
 have F9 := bz (st := j8) l9 c9 k9;have b9 := F9.binds (ps := ["_law_found", "_law_due"]) fun _ _ _ _ _ _ us hl => by rcases us with _ | ⟨_, _ | ⟨_, _ | ⟨_, us⟩⟩⟩ <;> first | rfl | (simp at hl) | cases hl
 have F10 := bz (st := gH) l10 c10 k10;have b10 := F10.binds (ps := ["_law_group"]) fun _ _ _ _ _ _ us hl => by rcases us with _ | ⟨_, _ | ⟨_, us⟩⟩ <;> first | rfl | (simp at hl) | cases hl
 have F11 := bz (st := ez) l11 c11 k11;have b11 := F11.binds (ps := ["n", "terms"]) fun _ _ _ _ _ _ us hl => by rcases us with _ | ⟨_, _ | ⟨_, _ | ⟨_, us⟩⟩⟩ <;> first | rfl | (simp at hl) | cases hl
 have F12 := bz (st := e7) l12 c12 k12;have b12 := F12.binds (ps := ["group"]) fun _ _ _ _ _ _ us hl => by rcases us with _ | ⟨_, _ | ⟨_, us⟩⟩ <;> first | rfl | (simp at hl) | cases hl
 have F13 := bz (st := e8) l13 c13 k13;have b13 := F13.binds (ps := ["text"]) fun _ _ _ _ _ _ us hl => by rcases us with _ | ⟨_, _ | ⟨_, us⟩⟩ <;> first | rfl | (simp at hl) | cases hl
 have F14 := bz (st := j7) l14 c14 k14;have b14 := F14.binds (ps := ["_law_pile_here", "_law_many"]) fun _ _ _ _ _ _ us hl => by rcases us with _ | ⟨_, _ | ⟨_, _ | ⟨_, us⟩⟩⟩ <;> first | rfl | (simp at hl) | cases hl
 have F15 := bz (st := ja) l15 c15 k15;have b15 := F15.binds (ps := ["_law_row_here"]) fun _ _ _ _ _ _ us hl => by rcases us with _ | ⟨_, _ | ⟨_, us⟩⟩ <;> first | rfl | (simp at hl) | cases hl
 have F16 := bz (st := gE) l16 c16 k16;have b16 := F16.binds (ps := ["n", "a", "b"]) fun _ _ _ _ _ _ us hl => by rcases us with _ | ⟨_, _ | ⟨_, _ | ⟨_, _ | ⟨_, us⟩⟩⟩⟩ <;> first | rfl | (simp at hl) | cases hl
 have F17 := bz (st := gD) l17 c17 k17;have b17 := F17.binds (ps := ["n", "a", "b", "c"]) fun _ _ _ _ _ _ us hl => by rcases us with _ | ⟨_, _ | ⟨_, _ | ⟨_, _ | ⟨_, _ | ⟨_, us⟩⟩⟩⟩⟩ <;> first | rfl | (simp at hl) | cases hl
 have F18 := bz (st := fP) l18 c18 k18;have b18 := F18.binds (ps := ["group", "number"]) fun _ _ _ _ _ _ us hl => by rcases us with _ | ⟨_, _ | ⟨_, _ | ⟨_, us⟩⟩⟩ <;> first | rfl | (simp at hl) | cases hl
 have F19 := bz (st := fk) l19 c19 k19;have b19 := F19.binds (ps := ["text", "least"]) fun _ _ _ _ _ _ us hl => by rcases us with _ | ⟨_, _ | ⟨_, _ | ⟨_, us⟩⟩⟩ <;> first | rfl | (simp at hl) | cases hl
 have F20 := bz (st := fj) l20 c20 k20;have b20 := F20.binds (ps := ["n", "text"]) fun _ _ _ _ _ _ us hl => by rcases us with _ | ⟨_, _ | ⟨_, _ | ⟨_, us⟩⟩⟩ <;> first | rfl | (simp at hl) | cases hl
 have F21 := bz (st := iq) l21 c21 k21;have b21 := F21.binds (ps := ["_law_pile_here"]) fun _ _ _ _ _ _ us hl => by rcases us with _ | ⟨_, _ | ⟨_, us⟩⟩ <;> first | rfl | (simp at hl) | cases hl
 have F22 := bz (st := gC) l22 c22 k22;have b22 := F22.binds (ps := ["n", "row"]) fun _ _ _ _ _ _ us hl => by rcases us with _ | ⟨_, _ | ⟨_, _ | ⟨_, us⟩⟩⟩ <;> first | rfl | (simp at hl) | cases hl
 have F23 := bz (st := fg) l23 c23 k23;have b23 := F23.binds (ps := ["n", "parts"]) fun _ _ _ _ _ _ us hl => by rcases us with _ | ⟨_, _ | ⟨_, _ | ⟨_, us⟩⟩⟩ <;> first | rfl | (simp at hl) | cases hl
 have F24 := bz (st := lj) l24 c24 k24;have b24 := F24.binds (ps := ["_law_script", "_law_start", "_law_n"]) fun _ _ _ _ _ _ us hl => by rcases us with _ | ⟨_, _ | ⟨_, _ | ⟨_, _ | ⟨_, us⟩⟩⟩⟩ <;> first | rfl | (simp at hl) | cases hl
 have F25 := bz (st := eN) l25 c25 k25;have b25 := F25.binds (ps := ["n", "saying"]) fun _ _ _ _ _ _ us hl => by rcases us with _ | ⟨_, _ | ⟨_, _ | ⟨_, us⟩⟩⟩ <;> first | rfl | (simp at hl) | cases hl
 have F26 := bz (st := fS) l26 c26 k26;have b26 := F26.binds (ps := ["n", "text"]) fun _ _ _ _ _ _ us hl => by rcases us with _ | ⟨_, _ | ⟨_, _ | ⟨_, us⟩⟩⟩ <;> first | rfl | (simp at hl) | cases hl
 have F27 := bz (st := fY) l27 c27 k27;have b27 := F27.binds (ps := ["n", "text"]) fun _ _ _ _ _ _ us hl => by rcases us with _ | ⟨_, _ | ⟨_, _ | ⟨_, us⟩⟩⟩ <;> first | rfl | (simp at hl) | cases hl
 have F28 := bz (st := fT) l28 c28 k28;have b28 := F28.binds (ps := ["n", "text"]) fun _ _ _ _ _ _ us hl => by rcases us with _ | ⟨_, _ | ⟨_, _ | ⟨_, us⟩⟩⟩ <;> first | rfl | (simp at hl) | cases hl
 have F29 := bz (st := fQ) l29 c29 k29;have b29 := F29.binds (ps := ["n", "sign", "words"]) fun _ _ _ _ _ _ us hl => by rcases us with _ | ⟨_, _ | ⟨_, _ | ⟨_, _ | ⟨_, us⟩⟩⟩⟩ <;> first | rfl | (simp at hl) | cases hl
 have F30 := bz (st := gF) l30 c30 k30;have b30 := F30.binds (ps := ["n", "text"]) fun _ _ _ _ _ _ us hl => by rcases us with _ | ⟨_, _ | ⟨_, _ | ⟨_, us⟩⟩⟩ <;> first | rfl | (simp at hl) | cases hl
 have F31 := bz (st := eO) l31 c31 k31;have b31 := F31.binds (ps := ["n", "text"]) fun _ _ _ _ _ _ us hl => by rcases us with _ | ⟨_, _ | ⟨_, _ | ⟨_, us⟩⟩⟩ <;> first | rfl | (simp at hl) | cases hl
 have F32 := bz (st := jb) l32 c32 k32;have b32 := F32.binds (ps := ["_law_n", "_law_row_here", "_law_sign", "_law_number_here"]) fun _ _ _ _ _ _ us hl => by rcases us with _ | ⟨_, _ | ⟨_, _ | ⟨_, _ | ⟨_, _ | ⟨_, us⟩⟩⟩⟩⟩ <;> first | rfl | (simp at hl) | cases hl
 have F33 := bz (st := nU) l33 c33 k33
 let t : Txt K mg := ⟨f0, bA "read_number" eP kV0 dc0 pm0 an0 cd0 ct0, f1, bA "in_two" kH kV1 dc1 pm1 an1 cd1 ct1, f2, bA "all_names" fU kV2 dc2 pm2 an2 cd2 ct2, f3, bA "names_in" gG kV3 dc3 pm3 an3 cd3 ct3, f4, bA "sign_ahead" eZ kV4 dc4 pm4 an4 cd4 ct4, f5, bA "signed_terms" ey kV5 dc5 pm5 an5 cd5 ct5, f6, bA "read_sign" fR kV6 dc6 pm6 an6 cd6 ct6, f7, bA "_law_mixed" je kV7 dc7 pm7 an7 cd7 ct7, f8, bA "_law_pile" j9 kV8 dc8 pm8 an8 cd8 ct8, f9, bA "_law_same" j8 kV9 dc9 pm9 an9 cd9 ct9, f10, bA "_law_letters" gH kV10 dc10 pm10 an10 cd10 ct10, f11, bA "row_of_terms" ez kV11 dc11 pm11 an11 cd11 ct11, f12, bA "show_group" e7 kV12 dc12 pm12 an12 cd12 ct12, f13, bA "read_whole" e8 kV13 dc13 pm13 an13 cd13 ct13, f14, bA "_law_take" j7 kV14 dc14 pm14 an14 cd14 ct14, f15, bA "_law_shown" ja kV15 dc15 pm15 an15 cd15 ct15, f16, bA "rest_row" gE kV16 dc16 pm16 an16 cd16 ct16, f17, bA "shared_row" gD kV17 dc17 pm17 an17 cd17 ct17, f18, bA "show_term" fP kV18 dc18 pm18 an18 cd18 ct18, f19, bA "read_count" fk kV19 dc19 pm19 an19 cd19 ct19, f20, bA "read_group" fj kV20 dc20 pm20 an20 cd20 ct20, f21, bA "_law_number" iq kV21 dc21 pm21 an21 cd21 ct21, f22, bA "show_row" gC kV22 dc22 pm22 an22 cd22 ct22, f23, bA "read_known" fg kV23 dc23 pm23 an23 cd23 ct23, f24, bA "_law_row" lj kV24 dc24 pm24 an24 cd24 ct24, f25, bA "show_saying" eN kV25 dc25 pm25 an25 cd25 ct25, f26, bA "read_rest" fS kV26 dc26 pm26 an26 cd26 ct26, f27, bA "read_shared" fY kV27 dc27 pm27 an27 cd27 ct27, f28, bA "read_form" fT kV28 dc28 pm28 an28 cd28 ct28, f29, bA "read_term" fQ kV29 dc29 pm29 an29 cd29 ct29, f30, bA "read_row" gF kV30 dc30 pm30 an30 cd30 ct30, f31, bA "read_saying" eO kV31 dc31 pm31 an31 cd31 ct31, f32, bA "_law_right" jb kV32 dc32 pm32 an32 cd32 ct32⟩
 have T : Tx t := ⟨F0, mg_of X G a0, b0, F1, mg_of X G a1, b1, F2, mg_of X G a2, b2, F3, mg_of X G a3, b3, F4, mg_of X G a4, b4, F5, mg_of X G a5, b5, F6, mg_of X G a6, b6, F7, mg_of X G a7, b7, F8, mg_of X G a8, b8, F9, mg_of X G a9, b9, F10, mg_of X G a10, b10, F11, mg_of X G a11, b11, F12, mg_of X G a12, b12, F13, mg_of X G a13, b13, F14, mg_of X G a14, b14, F15, mg_of X G a15, b15, F16, mg_of X G a16, b16, F17, mg_of X G a17, b17, F18, mg_of X G a18, b18, F19, mg_of X G a19, b19, F20, mg_of X G a20, b20, F21, mg_of X G a21, b21, F22, mg_of X G a22, b22, F23, mg_of X G a23, b23, F24, mg_of X G a24, b24, F25, mg_of X G a25, b25, F26, mg_of X G a26, b26, F27, mg_of X G a27, b27, F28, mg_of X G a28, b28, F29, mg_of X G a29, b29, F30, mg_of X G a30, b30, F31, mg_of X G a31, b31, F32, mg_of X G a32, b32, mg_none_of X G z_abs, mg_none_of X G z_all, mg_none_of X G z_bool, mg_none_of X G z_enumerate, mg_none_of X G z_int, mg_none_of X G z_isinstance, mg_none_of X G z_len, mg_none_of X G z_list, mg_none_of X G z_range, mg_none_of X G z_str, mg_none_of X G z_tuple, mg_none_of X G z_zip, ⟨_, mg_of X G v_FIGURES⟩, ⟨_, mg_of X G v_LETTERS⟩, ⟨_, mg_of X G v_MOST_FIGURES⟩, ⟨_, mg_of X G v_MOST_NAMES⟩⟩;exact ⟨bA "law" nU kV33 dc33 pm33 an33 cd33 ct33, fun s v => .of_eq rfl, fun base _ _ => CG T F33⟩
theorem E7 {l : PySem.W.OpenLaw} {q : Program} {loose : List Str} {XP : (Str -> Option Value) -> Heap -> Prop} {YP : World -> Heap -> Prop} {d : DefRec} {K : Params -> PySem.W.Frag} (hn : l.most = some 63) (hdf : d.params.defaults = [])
  (hY : ∀ (w : World) (h : Heap), YP w h -> (K w.params).In h) (hg : ∀ ns : List Int, ns.length <= 63 -> ∃ d, jK [.lst false (ns.map D.int)] = some (.bl true, [d]))
  (F : ∀ (w : World) (mg : Str -> Option Value) (fa : Addr) (h : Heap), (K w.params).In h -> h.Ns mainGlobals mg -> mg d.name = some (.ref fa) ->
   ∃ fd : FuncData, (∀ (s : Shared) (u : Value), BindsTo s fd ⟨[u], []⟩ [("_law_script", u)]) /\ ∀ base : Heap, (K w.params).In base -> base.Ns mainGlobals mg -> bY l.prog w (K w.params) mg base cN 11 fa fd ["_law_script"] (cP (K w.params) 1 jK)) :
  PySem.W.WalkO q loose XP YP l.row.toRowW d [] (fun f vs => PySem.call f vs) :=
 L2.walk_of (n := 63) (k := 11) (x := "_law_script") (CX := fun _ => cN) (sp := fun w => cP (K w.params) 1 jK) hn dC hdf ⟨rfl, by decide, by decide, rfl⟩ hY F (fun _ _ a ns hl _ hS => CL (hg ns hl) hS) fun _ _ _ _ _ z => z
end LW
namespace LW
open PySem L2 DD TT
structure dM where
 yscript : List Int
 yk : Int
 ycell : Int
noncomputable def p5 : {f : ((List Int) × Int × Unit) -> Option ((List Int) × ((List Int) × Int × Unit)) // JF kg f (Pc (rM rI) (Pc rI Pn)) (rL rI) (Pc (rM rI) (Pc rI Pn))} := ⟨_, by
 exact cj (S := dM) (N := 3) (W := [2, 2]) (c := vk) (Γn := []) (ro := (rL rI)) (Γp := [some ⟨dM.yscript, (rM rI)⟩, some ⟨dM.yk, rI⟩]) (Γr := [some ⟨dM.yscript, (rM rI)⟩, some ⟨dM.yk, rI⟩, none]) (init := (fun p => (⟨p.1, p.2.1, 0⟩ : dM))) (al (get := dM.yscript) dC (fun _ => rfl) fun _ => (al (get := dM.yk) dC (fun _ => rfl) fun _ => bn))
  (am (ba 2 (get := dM.ycell) (put := fun s v => {s with ycell := v}) (ae (ap 0)))
  (am (cw (Γ' := [some ⟨dM.yscript, (rM rI)⟩, some ⟨dM.yk, rI⟩, some ⟨dM.ycell, rI⟩]) (bt (aQ ga (ae (ai 1 rfl)) (ae (dv jr (ai 0 rfl))))) (ba 2 (get := dM.ycell) (put := fun s v => {s with ycell := v}) (ae (aC eu (ai 0 rfl) (ai 1 rfl)))) bL)
  (bb (dE (r := rI) (cV (ae (aC eT (ai 2 rfl) (dv mL (aC ga (dv og (ai 2 rfl)) (aC gv (ap 10) (ap 18)))))) (cV (ae (ai 2 rfl)) (cV (ae (aC eT (ap 97) (ai 1 rfl))) dD))))))) (ak dC rfl (ak dC rfl aV))⟩
noncomputable def pj := p5.1
theorem u9 : JF kg pj (Pc (rM rI) (Pc rI Pn)) (rL rI) (Pc (rM rI) (Pc rI Pn)) := p5.2
structure eh where
 ycell : Int
 yk : Int
 ynumber_here : Int
noncomputable def nQ : {f : (Int × Int × Unit) -> Option (Int × (Int × Int × Unit)) // JF kP f (Pc rI (Pc rI Pn)) rI (Pc rI (Pc rI Pn))} := ⟨_, by
 exact cj (S := eh) (N := 3) (W := [2, 2]) (c := tZ) (Γn := []) (ro := rI) (Γp := [some ⟨eh.ycell, rI⟩, some ⟨eh.yk, rI⟩]) (Γr := [some ⟨eh.ycell, rI⟩, some ⟨eh.yk, rI⟩, none]) (init := (fun p => (⟨p.1, p.2.1, 0⟩ : eh))) (al (get := eh.ycell) dC (fun _ => rfl) fun _ => (al (get := eh.yk) dC (fun _ => rfl) fun _ => bn))
  (am (ba 2 (get := eh.ynumber_here) (put := fun s v => {s with ynumber_here := v}) (ae (aC gv (aC d6 (aC d6 (aC eT (aC gv (ai 0 rfl) (ap 2147483647)) (ap 48271)) (aC eT (ai 1 rfl) (ap 69621))) (ap 11)) (ap 2147483647))))
  (am (ba 2 (get := eh.ynumber_here) (put := fun s v => {s with ynumber_here := v}) (ae (aC gv (aC eT (ai 2 rfl) (ai 2 rfl)) (ap 2147483629))))
  (bb (ae (aC gv (aC eT (ai 2 rfl) (ai 2 rfl)) (ap 2147483587)))))) (ak dC rfl (ak dC rfl aV))⟩
noncomputable def nr := nQ.1
theorem ze : JF kP nr (Pc rI (Pc rI Pn)) rI (Pc rI (Pc rI Pn)) := nQ.2
structure dL where
 ypile_here : List Int
 ymany : Int
 ydigit : Int
noncomputable def pZ : {f : ((List Int) × Int × Unit) -> Option (Int × ((List Int) × Int × Unit)) // JF eV f (Pc (rL rI) (Pc rI Pn)) rI (Pc (rL rI) (Pc rI Pn))} := ⟨_, by
 exact cj (S := dL) (N := 3) (W := [2]) (c := vi) (Γn := []) (ro := rI) (Γp := [some ⟨dL.ypile_here, (rL rI)⟩, some ⟨dL.ymany, rI⟩]) (Γr := [some ⟨dL.ypile_here, (rL rI)⟩, some ⟨dL.ymany, rI⟩, none]) (init := (fun p => (⟨p.1, p.2.1, 0⟩ : dL))) (al (get := dL.ypile_here) dC (fun _ => rfl) fun _ => (al (get := dL.ymany) dC (fun _ => rfl) fun _ => bn))
  (am (cw (Γ' := [some ⟨dL.ypile_here, (rL rI)⟩, some ⟨dL.ymany, rI⟩, none]) (bt (ae (aC Es (aC eu (ai 0 rfl) (ap 0)) (sU (g8 (ap 0) (g8 (eR (ap 1)) pK)))))) (am (uZ 0 (get := dL.ypile_here) (put := fun s v => {s with ypile_here := v}) (ae (aC d6 (aC eu (ai 0 rfl) (ap 2)) (ap 1))) (ap 2) rfl)
  (bb (aQ gv (aF ze (bS (ae (aC eu (ai 0 rfl) (ap 1))) (bS (ae (aC eu (ai 0 rfl) (ap 2))) aI)) (bR (bR aH)) (bQ (bQ aG))) (ae (ai 1 rfl))))) bL)
  (am (ba 2 (get := dL.ydigit) (put := fun s v => {s with ydigit := v}) (ae (aC gv (aC eu (ai 0 rfl) (ap 0)) (ai 1 rfl))))
  (am (uZ 0 (get := dL.ypile_here) (put := fun s v => {s with ypile_here := v}) (ae (aC gv (aC eu (ai 0 rfl) (ap 0)) (ai 1 rfl))) (ap 0) rfl)
  (bb (ae (ai 2 rfl)))))) (ak dC rfl (ak dC rfl aV))⟩
noncomputable def pf := pZ.1
theorem g9 : JF eV pf (Pc (rL rI) (Pc rI Pn)) rI (Pc (rL rI) (Pc rI Pn)) := pZ.2
structure bM where
 ypile_here : List Int
 yway : Int
 ynumber_here : Int
 yk : Int
noncomputable def mo : {f : ((List Int) × Unit) -> Option (Int × ((List Int) × Unit)) // JF iy f (Pc (rL rI) Pn) rI (Pc (rL rI) Pn)} := ⟨_, by
 exact cj (S := bM) (N := 4) (W := [1, 2, 3, 2]) (c := qj) (Γn := []) (ro := rI) (Γp := [some ⟨bM.ypile_here, (rL rI)⟩]) (Γr := [some ⟨bM.ypile_here, (rL rI)⟩, none, none, none]) (init := (fun p => (⟨p.1, 0, 0, 0⟩ : bM))) (al (get := bM.ypile_here) dC (fun _ => rfl) fun _ => bn)
  (am (ba 1 (get := bM.yway) (put := fun s v => {s with yway := v}) (aF g9 (aK 0 rfl (bS (ae (ap 4)) aI)) (de 0 rfl (bR aH)) (dd 0 (get := bM.ypile_here) (put := fun s v => {s with ypile_here := v}) (h := bQ aG))))
  (am (cw (Γ' := [some ⟨bM.ypile_here, (rL rI)⟩, some ⟨bM.yway, rI⟩, none, none]) (bt (aQ cX (ae (ai 1 rfl)) (ae (ap 0)))) (am (ba 2 (get := bM.ynumber_here) (put := fun s v => {s with ynumber_here := v}) (ae (ap 0)))
  (am (fw (qW (ae (ap 4))) Le.refl (eG 3 (get := bM.yk) (put := fun s v => {s with yk := v})) (ba 2 (get := bM.ynumber_here) (put := fun s v => {s with ynumber_here := v}) (aQ d6 (ae (aC eT (ai 2 rfl) (aC gv (ap 10) (ap 10)))) (aF g9 (aK 0 rfl (bS (ae (aC gv (ap 10) (ap 10))) aI)) (de 0 rfl (bR aH)) (dd 0 (get := bM.ypile_here) (put := fun s v => {s with ypile_here := v}) (h := bQ aG))))))
  (bb (z5 (dE (r := rI) (cV (ae (ai 2 rfl)) (cV (ae (eR (ai 2 rfl))) dD))) (aF g9 (aK 0 rfl (bS (ae (ap 2)) aI)) (de 0 rfl (bR aH)) (dd 0 (get := bM.ypile_here) (put := fun s v => {s with ypile_here := v}) (h := bQ aG))))))) bL)
  (am (cw (Γ' := [some ⟨bM.ypile_here, (rL rI)⟩, some ⟨bM.yway, rI⟩, none, none]) (bt (aQ cX (ae (ai 1 rfl)) (ae (ap 1)))) (bb (aQ d6 (aF g9 (aK 0 rfl (bS (ae (ap 2001)) aI)) (de 0 rfl (bR aH)) (dd 0 (get := bM.ypile_here) (put := fun s v => {s with ypile_here := v}) (h := bQ aG))) (ae (ap 1000)))) bL)
  (bb (aQ d6 (aF g9 (aK 0 rfl (bS (ae (ap 9)) aI)) (de 0 rfl (bR aH)) (dd 0 (get := bM.ypile_here) (put := fun s v => {s with ypile_here := v}) (h := bQ aG))) (ae (ap 4))))))) (ak dC rfl aV)⟩
noncomputable def io := mo.1
theorem qe : JF iy io (Pc (rL rI) Pn) rI (Pc (rL rI) Pn) := mo.2
structure cM where
 yscript : List Int
 ystart : Int
 yn : Int
 yrow_here : List Int
 yg : Int
 ypile_here : List Int
noncomputable def t4 : {f : ((List Int) × Int × Int × Unit) -> Option ((List Int) × ((List Int) × Int × Int × Unit)) // JF ot f (Pc (rM rI) (Pc rI (Pc rI Pn))) (rL rI) (Pc (rM rI) (Pc rI (Pc rI Pn)))} := ⟨_, by
 exact cj (S := cM) (N := 6) (W := [3, 4, 5]) (c := yd) (Γn := []) (ro := (rL rI)) (Γp := [some ⟨cM.yscript, (rM rI)⟩, some ⟨cM.ystart, rI⟩, some ⟨cM.yn, rI⟩]) (Γr := [some ⟨cM.yscript, (rM rI)⟩, some ⟨cM.ystart, rI⟩, some ⟨cM.yn, rI⟩, none, none, none]) (init := (fun p => (⟨p.1, p.2.1, p.2.2.1, [], 0, []⟩ : cM))) (al (get := cM.yscript) dC (fun _ => rfl) fun _ => (al (get := cM.ystart) dC (fun _ => rfl) fun _ => (al (get := cM.yn) dC (fun _ => rfl) fun _ => bn)))
  (am (ba 3 (get := cM.yrow_here) (put := fun s v => {s with yrow_here := v}) (dE (dD (r := rI))))
  (am (fw (zZ (ae (ap 1)) (ae (aC gv (ap 1) (ai 2 rfl)))) Le.refl (eG 4 (get := cM.yg) (put := fun s v => {s with yg := v})) (am (ba 5 (get := cM.ypile_here) (put := fun s v => {s with ypile_here := v}) (aF u9 (aK 0 rfl (bS (ae (aC d6 (ai 1 rfl) (ai 4 rfl))) aI)) (de 0 rfl (bR aH)) (dd 0 (get := cM.yscript) (put := fun s v => {s with yscript := v}) (h := bQ aG))))
  (iY (mK 3 (get := cM.yrow_here) (put := fun s v => {s with yrow_here := v}) (aQ eT (aF qe (aK 5 rfl aI) (de 5 rfl aH) (dd 5 (get := cM.ypile_here) (put := fun s v => {s with ypile_here := v}) (h := aG))) (z7 mL (aQ ga (aF g9 (aK 5 rfl (bS (ae (ap 3)) aI)) (de 5 rfl (bR aH)) (dd 5 (get := cM.ypile_here) (put := fun s v => {s with ypile_here := v}) (h := bQ aG))) (ae (ap 0))))) rfl rfl))))
  (bb (qY 3 rfl)))) (ak dC rfl (ak dC rfl (ak dC rfl aV)))⟩
noncomputable def rK := t4.1
theorem C3 : JF ot rK (Pc (rM rI) (Pc rI (Pc rI Pn))) (rL rI) (Pc (rM rI) (Pc rI (Pc rI Pn))) := t4.2
structure bT where
 xnumber : Int
 xis_first : Bool
noncomputable def jC : {f : (Int × Bool × Unit) -> Option (Str × (Int × Bool × Unit)) // JF gP f (Pc rI (Pc rB Pn)) rS (Pc rI (Pc rB Pn))} := ⟨_, by
 exact cj (S := bT) (N := 2) (W := []) (c := lW) (Γn := []) (ro := rS) (Γp := [some ⟨bT.xnumber, rI⟩, some ⟨bT.xis_first, rB⟩]) (Γr := [some ⟨bT.xnumber, rI⟩, some ⟨bT.xis_first, rB⟩]) (init := (fun p => (⟨p.1, p.2.1⟩ : bT))) (al (get := bT.xnumber) dC (fun _ => rfl) fun _ => (al (get := bT.xis_first) dC (fun _ => rfl) fun _ => bn))
  (am (cw (Γ' := [some ⟨bT.xnumber, rI⟩, some ⟨bT.xis_first, rB⟩]) (bt (ae (ai 1 rfl))) (bb (iQ (r := rS) (Γ' := [some ⟨bT.xnumber, rI⟩, some ⟨bT.xis_first, rB⟩]) (bt (aQ ga (ae (ai 0 rfl)) (ae (ap 0)))) (ae (bx "-")) (ae (bx "")))) bL)
  (bb (iQ (r := rS) (Γ' := [some ⟨bT.xnumber, rI⟩, some ⟨bT.xis_first, rB⟩]) (bt (aQ ga (ae (ai 0 rfl)) (ae (ap 0)))) (ae (bx " - ")) (ae (bx " + "))))) (ak dC rfl (ak dC rfl aV))⟩
noncomputable def i7 := jC.1
theorem tp : JF gP i7 (Pc rI (Pc rB Pn)) rS (Pc rI (Pc rB Pn)) := jC.2
structure d8 where
 xn : Int
 xgroup : Int
noncomputable def oV : {f : (Int × Int × Unit) -> Option ((List Int) × (Int × Int × Unit)) // JF iT f (Pc rI (Pc rI Pn)) (rL rI) (Pc rI (Pc rI Pn))} := ⟨_, by
 exact cj (S := d8) (N := 2) (W := []) (c := oO) (Γn := []) (ro := (rL rI)) (Γp := [some ⟨d8.xn, rI⟩, some ⟨d8.xgroup, rI⟩]) (Γr := [some ⟨d8.xn, rI⟩, some ⟨d8.xgroup, rI⟩]) (init := (fun p => (⟨p.1, p.2.1⟩ : d8))) (al (get := d8.xn) dC (fun _ => rfl) fun _ => (al (get := d8.xgroup) dC (fun _ => rfl) fun _ => bn))
  (bb (kL (qW (ae (ai 0 rfl))) Le.refl (sY 2 rfl) (fun x2 => (bt (aQ ib (ae (aC d6 (ai 1 rfl) (aC gv (ap 1) (ai 2 rfl)))) (ae (ap 0))))) (fun x2 => (ae (ai 2 rfl))))) (ak dC rfl (ak dC rfl aV))⟩
noncomputable def vF := oV.1
theorem we : JF iT vF (Pc rI (Pc rI Pn)) (rL rI) (Pc rI (Pc rI Pn)) := oV.2
structure fB where
 xgroup : Int
noncomputable def mj : {f : (Int × Unit) -> Option (Str × (Int × Unit)) // JF fx f (Pc rI Pn) rS (Pc rI Pn)} := ⟨_, by
 exact cj (S := fB) (N := 1) (W := []) (c := lX) (Γn := []) (ro := rS) (Γp := [some ⟨fB.xgroup, rI⟩]) (Γr := [some ⟨fB.xgroup, rI⟩]) (init := (fun p => (⟨p.1⟩ : fB))) (al (get := fB.xgroup) dC (fun _ => rfl) fun _ => bn)
  (bb (mJ (ae (bx "")) (kL (jq (aF we (bS (ae (ap 4)) (aK 0 rfl aI)) (bR (bE 0 rfl aH)) (bQ (bD 0 aG)))) Le.refl (sY 1 rfl) (fun x1 => mI) (fun x1 => (ae (aC sX (bx "abcd") (ai 1 rfl))))))) (ak dC rfl aV)⟩
noncomputable def i8 := mj.1
theorem lI : JF fx i8 (Pc rI Pn) rS (Pc rI Pn) := mj.2
structure cQ where
 xgroup : Int
 xnumber : Int
 xsize : Int
 xletters : Str
noncomputable def j0 : {f : (Int × Int × Unit) -> Option (Str × (Int × Int × Unit)) // JF ic f (Pc rI (Pc rI Pn)) rS (Pc rI (Pc rI Pn))} := ⟨_, by
 exact cj (S := cQ) (N := 4) (W := [2, 3]) (c := mV) (Γn := []) (ro := rS) (Γp := [some ⟨cQ.xgroup, rI⟩, some ⟨cQ.xnumber, rI⟩]) (Γr := [some ⟨cQ.xgroup, rI⟩, some ⟨cQ.xnumber, rI⟩, none, none]) (init := (fun p => (⟨p.1, p.2.1, 0, ""⟩ : cQ))) (al (get := cQ.xgroup) dC (fun _ => rfl) fun _ => (al (get := cQ.xnumber) dC (fun _ => rfl) fun _ => bn))
  (am (ba 2 (get := cQ.xsize) (put := fun s v => {s with xsize := v}) (ae (dv og (ai 1 rfl))))
  (am (ba 3 (get := cQ.xletters) (put := fun s v => {s with xletters := v}) (aF lI (aK 0 rfl aI) (bE 0 rfl aH) (bD 0 aG)))
  (bb (z6 (eH (xM (ae (ai 2 rfl))) (eH (ae (bx " h(")) (eH (tf (ae (ai 3 rfl))) (eH (ae (bx ")")) u0)))))))) (ak dC rfl (ak dC rfl aV))⟩
noncomputable def jR := j0.1
theorem ur : JF ic jR (Pc rI (Pc rI Pn)) rS (Pc rI (Pc rI Pn)) := j0.2
structure bj where
 xn : Int
 xrow : List Int
 xshown : Str
 xgroup : Int
 xnumber : Int
noncomputable def kS : {f : (Int × (List Int) × Unit) -> Option (Str × (Int × (List Int) × Unit)) // JF gQ f (Pc rI (Pc (rL rI) Pn)) rS (Pc rI (Pc (rM rI) Pn))} := ⟨_, by
 exact cj (S := bj) (N := 5) (W := [2, 3, 4, 2]) (c := oJ) (Γn := []) (ro := rS) (Γp := [some ⟨bj.xn, rI⟩, some ⟨bj.xrow, (rL rI)⟩]) (Γr := [some ⟨bj.xn, rI⟩, some ⟨bj.xrow, (rM rI)⟩, none, none, none]) (init := (fun p => (⟨p.1, p.2.1, "", 0, 0⟩ : bj))) (al (get := bj.xn) dC (fun _ => rfl) fun _ => (al (get := bj.xrow) dC (fun _ => rfl) fun _ => bn))
  (am (ba 2 (get := bj.xshown) (put := fun s v => {s with xshown := v}) (ae (bx "")))
  (am (fw (z0 1 (gO 1 rfl)) Le.refl (qX (eG 3 (get := bj.xgroup) (put := fun s v => {s with xgroup := v})) (eG 4 (get := bj.xnumber) (put := fun s v => {s with xnumber := v}))) (cw (Γ' := [some ⟨bj.xn, rI⟩, some ⟨bj.xrow, (rM rI)⟩, some ⟨bj.xshown, rS⟩, some ⟨bj.xgroup, rI⟩, some ⟨bj.xnumber, rI⟩]) (bt (aQ ib (ae (ai 4 rfl)) (ae (ap 0)))) (ba 2 (get := bj.xshown) (put := fun s v => {s with xshown := v}) (aQ fI (aQ fI (ae (ai 2 rfl)) (aF tp (aK 4 rfl (bS (ae (aC cX (ai 2 rfl) (bx ""))) aI)) (bE 4 rfl (bR aH)) (bD 4 (bQ aG)))) (aF ur (aK 3 rfl (aK 4 rfl aI)) (bE 3 rfl (bE 4 rfl aH)) (bD 3 (bD 4 aG))))) bL))
  (bb (iQ (r := rS) (Γ' := [some ⟨bj.xn, rI⟩, some ⟨bj.xrow, (rM rI)⟩, some ⟨bj.xshown, rS⟩, none, none]) (bt (aQ ib (ae (ai 2 rfl)) (ae (bx "")))) (ae (ai 2 rfl)) (ae (bx "0")))))) (ak dC rfl (ak dC rfl aV))⟩
noncomputable def kA := kS.1
theorem wb : JF gQ kA (Pc rI (Pc (rL rI) Pn)) rS (Pc rI (Pc (rM rI) Pn)) := kS.2
structure bB where
 xn : Int
 xsaying : (List Int) × Str × Int
 xrow : Str
 xsign : Str
 xnumber : Int
noncomputable def iG : {f : (Int × ((List Int) × Str × Int) × Unit) -> Option (Str × (Int × ((List Int) × Str × Int) × Unit)) // JF gb f (Pc rI (Pc (du (rL rI) rS rI) Pn)) rS (Pc rI (Pc (du (rM rI) rS rI) Pn))} := ⟨_, by
 exact cj (S := bB) (N := 5) (W := [2, 3, 4]) (c := lf) (Γn := []) (ro := rS) (Γp := [some ⟨bB.xn, rI⟩, some ⟨bB.xsaying, (du (rL rI) rS rI)⟩]) (Γr := [some ⟨bB.xn, rI⟩, some ⟨bB.xsaying, (du (rM rI) rS rI)⟩, none, none, none]) (init := (fun p => (⟨p.1, p.2.1, "", "", 0⟩ : bB))) (al (get := bB.xn) dC (fun _ => rfl) fun _ => (al (get := bB.xsaying) dC (fun _ => rfl) fun _ => bn))
  (am (ba 2 (get := bB.xrow) (put := fun s v => {s with xrow := v}) (u3 1 rfl v7 (tj wb (C1 0 rfl (xP 1 rfl v7 u7)) (CY 0 (xO 1 (put := fun s v => {s with xsaying := v}) rfl zU (by intro _ _; rfl) (by intro _; repeat (first | exact Fr.nil | refine Fr.som (fun _ _ h => h) ?_ | refine Fr.non ?_)) u4)))))
  (am (ba 3 (get := bB.xsign) (put := fun s v => {s with xsign := v}) (iQ (r := rS) (Γ' := [some ⟨bB.xn, rI⟩, some ⟨bB.xsaying, (du (rM rI) rS rI)⟩, some ⟨bB.xrow, rS⟩, none, none]) (bt (aQ cX (ae (n6 zL (ai 1 rfl))) (ae (bx "=")))) (ae (bx "=")) (ae (bx ">="))))
  (am (ba 4 (get := bB.xnumber) (put := fun s v => {s with xnumber := v}) (ae (n6 zK (ai 1 rfl))))
  (bb (z6 (eH (tf (ae (ai 2 rfl))) (eH (ae (bx " ")) (eH (tf (ae (ai 3 rfl))) (eH (ae (bx " ")) (eH (xM (ae (ai 4 rfl))) u0)))))))))) (ak dC rfl (ak dC rfl aV))⟩
noncomputable def iC := iG.1
theorem qL : JF gb iC (Pc rI (Pc (du (rL rI) rS rI) Pn)) rS (Pc rI (Pc (du (rM rI) rS rI) Pn)) := iG.2
structure gX where
 ygroup : Int
noncomputable def oW : {f : (Int × Unit) -> Option (Str × (Int × Unit)) // JF iU f (Pc rI Pn) rS (Pc rI Pn)} := ⟨_, by
 exact cj (S := gX) (N := 1) (W := []) (c := oP) (Γn := []) (ro := rS) (Γp := [some ⟨gX.ygroup, rI⟩]) (Γr := [some ⟨gX.ygroup, rI⟩]) (init := (fun p => (⟨p.1⟩ : gX))) (al (get := gX.ygroup) dC (fun _ => rfl) fun _ => bn)
  (bb (mJ (ae (bx "")) (kL (v9 (ae (bx "abcd"))) Le.refl (CU 1 2 rfl rfl) (fun x3 => (bt (aQ cX (ae (aC d6 (aC gv (ai 0 rfl) (ai 1 rfl)) (ap 1))) (ae (ap 1))))) (fun x3 => (ae (ai 2 rfl)))))) (ak dC rfl aV)⟩
noncomputable def kB := oW.1
theorem wf : JF iU kB (Pc rI Pn) rS (Pc rI Pn) := oW.2
structure bI where
 yrow_here : List Int
 ywords : List Str
 yplace : Int
 ynumber_here : Int
 ymark : Str
 ytext : Str
noncomputable def nO : {f : ((List Int) × Unit) -> Option (Str × ((List Int) × Unit)) // JF kO f (Pc (rM rI) Pn) rS (Pc (rM rI) Pn)} := ⟨_, by
 exact cj (S := bI) (N := 6) (W := [1, 2, 3, 4, 5]) (c := tX) (Γn := []) (ro := rS) (Γp := [some ⟨bI.yrow_here, (rM rI)⟩]) (Γr := [some ⟨bI.yrow_here, (rM rI)⟩, none, none, none, none, none]) (init := (fun p => (⟨p.1, [], 0, 0, "", ""⟩ : bI))) (al (get := bI.yrow_here) dC (fun _ => rfl) fun _ => bn)
  (am (ba 1 (get := bI.ywords) (put := fun s v => {s with ywords := v}) (dE (dD (r := rS))))
  (am (fw (z0 0 (gO 0 rfl)) Le.refl (qX (eG 2 (get := bI.yplace) (put := fun s v => {s with yplace := v})) (eG 3 (get := bI.ynumber_here) (put := fun s v => {s with ynumber_here := v}))) (cw (Γ' := [some ⟨bI.yrow_here, (rM rI)⟩, some ⟨bI.ywords, (rL rS)⟩, some ⟨bI.yplace, rI⟩, some ⟨bI.ynumber_here, rI⟩, none, none]) (bt (aQ ib (ae (ai 3 rfl)) (ae (ap 0)))) (am (ba 4 (get := bI.ymark) (put := fun s v => {s with ymark := v}) (ae (aC eu (sU (g8 (bx " + ") (g8 (bx " - ") pK))) (dv mL (aC ga (ai 3 rfl) (ap 0))))))
  (iY (mK 1 (get := bI.ywords) (put := fun s v => {s with ywords := v}) (aQ fI (aQ fI (ae (aC fI (aC fI (ai 4 rfl) (dv u5 (dv og (ai 3 rfl)))) (bx " h("))) (aF wf (bS (ae (aC d6 (ai 2 rfl) (ap 1))) aI) (bR aH) (bQ aG))) (ae (bx ")"))) rfl rfl))) bL))
  (am (ba 5 (get := bI.ytext) (put := fun s v => {s with ytext := v}) (mJ (ae (bx "")) (gO 1 rfl)))
  (am (cw (Γ' := [some ⟨bI.yrow_here, (rM rI)⟩, some ⟨bI.ywords, (rM rS)⟩, none, none, none, some ⟨bI.ytext, rS⟩]) (bt (aQ cX (ae (ai 5 rfl)) (ae (bx "")))) (bb (ae (bx "0"))) bL)
  (am (cw (Γ' := [some ⟨bI.yrow_here, (rM rI)⟩, some ⟨bI.ywords, (rM rS)⟩, none, none, none, some ⟨bI.ytext, rS⟩]) (bt (aQ cX (ae (aC sX (ai 5 rfl) (ap 1))) (ae (bx "-")))) (bb (aQ fI (ae (bx "-")) (lG (ae (ai 5 rfl)) (gq (ap 3)) jp))) bL)
  (bb (lG (ae (ai 5 rfl)) (gq (ap 3)) jp))))))) (ak dC rfl aV)⟩
noncomputable def nk := nO.1
theorem zd : JF kO nk (Pc (rM rI) Pn) rS (Pc (rM rI) Pn) := nO.2
structure fW where
 xn : Int
noncomputable def ng : {f : (Int × Unit) -> Option (Int × (Int × Unit)) // JF eW f (Pc rI Pn) rI (Pc rI Pn)} := ⟨_, by
 exact cj (S := fW) (N := 1) (W := []) (c := m5) (Γn := []) (ro := rI) (Γp := [some ⟨fW.xn, rI⟩]) (Γr := [some ⟨fW.xn, rI⟩]) (init := (fun p => (⟨p.1⟩ : fW))) (al (get := fW.xn) dC (fun _ => rfl) fun _ => bn)
  (bb (ae (aC d6 (aC gv (ap 1) (ai 0 rfl)) (ap 1)))) (ak dC rfl aV)⟩
noncomputable def jT := ng.1
theorem jX : JF eW jT (Pc rI Pn) rI (Pc rI Pn) := ng.2
structure ag where
 xtext : Str
 xsigns : List Int
 xterms : List (List Str)
 xword : Str
noncomputable def hJ : {f : (Str × Unit) -> Option ((List (Int × (List Str))) × (Str × Unit)) // JF fJ f (Pc rS Pn) (rL (fm rI (rM rS))) (Pc rS Pn)} := ⟨_, by
 exact cj (S := ag) (N := 4) (W := [1, 2, 3]) (c := kn) (Γn := []) (ro := (rL (fm rI (rM rS)))) (Γp := [some ⟨ag.xtext, rS⟩]) (Γr := [some ⟨ag.xtext, rS⟩, none, none, none]) (init := (fun p => (⟨p.1, [], [], ""⟩ : ag))) (al (get := ag.xtext) dC (fun _ => rfl) fun _ => bn)
  (am (ba 1 (get := ag.xsigns) (put := fun s v => {s with xsigns := v}) (dE (r := rI) (cV (iQ (r := rI) (Γ' := [some ⟨ag.xtext, rS⟩, none, none, none]) (bt (lF (ae (ai 0 rfl)) (ae (bx "-")))) (ae (eR (ap 1))) (ae (ap 1))) dD)))
  (am (ba 2 (get := ag.xterms) (put := fun s v => {s with xterms := v}) (dE (r := (rL rS)) (cV (dE (dD (r := rS))) dD)))
  (am (fw (jq (nI (iQ (r := rS) (Γ' := [some ⟨ag.xtext, rS⟩, some ⟨ag.xsigns, (rL rI)⟩, some ⟨ag.xterms, (rL (rL rS))⟩, none]) (bt (aQ cX (ae (aC eu (ai 1 rfl) (ap 0))) (ae (eR (ap 1))))) (lG (ae (ai 0 rfl)) (gq (ap 1)) jp) (ae (ai 0 rfl))) (ae (bx " ")))) Le.refl (eG 3 (get := ag.xword) (put := fun s v => {s with xword := v})) (cw (Γ' := [some ⟨ag.xtext, rS⟩, some ⟨ag.xsigns, (rL rI)⟩, some ⟨ag.xterms, (rL (rL rS))⟩, some ⟨ag.xword, rS⟩]) (ia (bt (aQ cX (ae (ai 3 rfl)) (ae (bx "+")))) (bt (aQ cX (ae (ai 3 rfl)) (ae (bx "-"))))) (am (iY (mK 1 (get := ag.xsigns) (put := fun s v => {s with xsigns := v}) (iQ (r := rI) (Γ' := [some ⟨ag.xtext, rS⟩, some ⟨ag.xsigns, (rL rI)⟩, some ⟨ag.xterms, (rL (rL rS))⟩, some ⟨ag.xword, rS⟩]) (bt (aQ cX (ae (ai 3 rfl)) (ae (bx "+")))) (ae (ap 1)) (ae (eR (ap 1)))) rfl rfl))
  (iY (mK 2 (get := ag.xterms) (put := fun s v => {s with xterms := v}) (dE (dD (r := rS))) rfl rfl))) (iY (Bq 2 (get := ag.xterms) (put := fun s v => {s with xterms := v}) (ai 3 rfl) (eR (ap 1)) rfl))))
  (bb (Et (gO 1 rfl) (gO 2 rfl)))))) (ak dC rfl aV)⟩
noncomputable def g5 := hJ.1
theorem pL : JF fJ g5 (Pc rS Pn) (rL (fm rI (rM rS))) (Pc rS Pn) := hJ.2
structure ck where
 xtext : Str
 xfigures : Str
noncomputable def gj : {f : (Str × Unit) -> Option (Int × (Str × Unit)) // JF gf f (Pc rS Pn) rI (Pc rS Pn)} := ⟨_, by
 exact cj (S := ck) (N := 2) (W := [1]) (c := lh) (Γn := []) (ro := rI) (Γp := [some ⟨ck.xtext, rS⟩]) (Γr := [some ⟨ck.xtext, rS⟩, none]) (init := (fun p => (⟨p.1, ""⟩ : ck))) (al (get := ck.xtext) dC (fun _ => rfl) fun _ => bn)
  (am (ba 1 (get := ck.xfigures) (put := fun s v => {s with xfigures := v}) (iQ (r := rS) (Γ' := [some ⟨ck.xtext, rS⟩, none]) (bt (lF (ae (ai 0 rfl)) (ae (bx "-")))) (lG (ae (ai 0 rfl)) (gq (ap 1)) jp) (ae (ai 0 rfl))))
  (am (cw (Γ' := [some ⟨ck.xtext, rS⟩, some ⟨ck.xfigures, rS⟩]) (ia (bt (aQ ga (ae (dv u6 (ai 1 rfl))) (ae (ap 1)))) (ia (bt (aQ ga (ae (dv u6 (ai 1 rfl))) (ae (ap 2000)))) (gN (bt (z7 C0 (kL (CT (ae (ai 1 rfl))) Le.refl (sY 2 rfl) (fun x5 => mI) (fun x5 => (ae (aC CQ (ai 2 rfl) (bx "0123456789")))))))))) cU bL)
  (am (cw (Γ' := [some ⟨ck.xtext, rS⟩, some ⟨ck.xfigures, rS⟩]) (xJ (bt (aQ cX (ae (aC sX (ai 1 rfl) (ap 0))) (ae (bx "0")))) (bt (aQ ib (ae (ai 0 rfl)) (ae (bx "0"))))) cU bL)
  (bb (ae (dv Bs (ai 0 rfl))))))) (ak dC rfl aV)⟩
noncomputable def cJ := gj.1
theorem qN : JF gf cJ (Pc rS Pn) rI (Pc rS Pn) := gj.2
structure dg where
 xtext : Str
 xnumber : Int
noncomputable def jD : {f : (Str × Unit) -> Option (Int × (Str × Unit)) // JF fy f (Pc rS Pn) rI (Pc rS Pn)} := ⟨_, by
 exact cj (S := dg) (N := 2) (W := [1]) (c := lY) (Γn := []) (ro := rI) (Γp := [some ⟨dg.xtext, rS⟩]) (Γr := [some ⟨dg.xtext, rS⟩, none]) (init := (fun p => (⟨p.1, 0⟩ : dg))) (al (get := dg.xtext) dC (fun _ => rfl) fun _ => bn)
  (am (ba 1 (get := dg.xnumber) (put := fun s v => {s with xnumber := v}) (aF qN (aK 0 rfl aI) (bE 0 rfl aH) (bD 0 aG)))
  (am (cw (Γ' := [some ⟨dg.xtext, rS⟩, some ⟨dg.xnumber, rI⟩]) (bt (aQ ga (ae (dv og (ai 1 rfl))) (ae (aC gv (ap 10) (ap 40))))) cU bL)
  (bb (ae (ai 1 rfl))))) (ak dC rfl aV)⟩
noncomputable def gA := jD.1
theorem lJ : JF fy gA (Pc rS Pn) rI (Pc rS Pn) := jD.2
structure cq where
 xtext : Str
 xleast : Int
 xnumber : Int
noncomputable def jE : {f : (Str × Int × Unit) -> Option (Int × (Str × Int × Unit)) // JF gS f (Pc rS (Pc rI Pn)) rI (Pc rS (Pc rI Pn))} := ⟨_, by
 exact cj (S := cq) (N := 3) (W := [2]) (c := md) (Γn := []) (ro := rI) (Γp := [some ⟨cq.xtext, rS⟩, some ⟨cq.xleast, rI⟩]) (Γr := [some ⟨cq.xtext, rS⟩, some ⟨cq.xleast, rI⟩, none]) (init := (fun p => (⟨p.1, p.2.1, 0⟩ : cq))) (al (get := cq.xtext) dC (fun _ => rfl) fun _ => (al (get := cq.xleast) dC (fun _ => rfl) fun _ => bn))
  (am (ba 2 (get := cq.xnumber) (put := fun s v => {s with xnumber := v}) (aF lJ (aK 0 rfl aI) (bE 0 rfl aH) (bD 0 aG)))
  (am (cw (Γ' := [some ⟨cq.xtext, rS⟩, some ⟨cq.xleast, rI⟩, some ⟨cq.xnumber, rI⟩]) (bt (aQ ga (ae (ai 2 rfl)) (ae (ai 1 rfl)))) cU bL)
  (bb (ae (ai 2 rfl))))) (ak dC rfl (ak dC rfl aV))⟩
noncomputable def gB := jE.1
theorem tu : JF gS gB (Pc rS (Pc rI Pn)) rI (Pc rS (Pc rI Pn)) := jE.2
structure cn where
 xn : Int
 xtext : Str
 xgroup : Int
noncomputable def mn : {f : (Int × Str × Unit) -> Option (Int × (Int × Str × Unit)) // JF fA f (Pc rI (Pc rS Pn)) rI (Pc rI (Pc rS Pn))} := ⟨_, by
 exact cj (S := cn) (N := 3) (W := [2]) (c := ma) (Γn := []) (ro := rI) (Γp := [some ⟨cn.xn, rI⟩, some ⟨cn.xtext, rS⟩]) (Γr := [some ⟨cn.xn, rI⟩, some ⟨cn.xtext, rS⟩, none]) (init := (fun p => (⟨p.1, p.2.1, 0⟩ : cn))) (al (get := cn.xn) dC (fun _ => rfl) fun _ => (al (get := cn.xtext) dC (fun _ => rfl) fun _ => bn))
  (am (fw (zZ (ae (ap 1)) (aQ d6 (aF jX (aK 0 rfl aI) (bE 0 rfl aH) (bD 0 aG)) (ae (ap 1)))) Le.refl (eG 2 (get := cn.xgroup) (put := fun s v => {s with xgroup := v})) (cw (Γ' := [some ⟨cn.xn, rI⟩, some ⟨cn.xtext, rS⟩, some ⟨cn.xgroup, rI⟩]) (bt (aQ cX (aF lI (aK 2 rfl aI) (bE 2 rfl aH) (bD 2 aG)) (ae (ai 1 rfl)))) (bb (ae (ai 2 rfl))) bL))
  cU) (ak dC rfl (ak dC rfl aV))⟩
noncomputable def rJ := mn.1
theorem lK : JF fA rJ (Pc rI (Pc rS Pn)) rI (Pc rI (Pc rS Pn)) := mn.2
structure cm where
 xn : Int
 xparts : List Str
noncomputable def ml : {f : (Int × (List Str) × Unit) -> Option (Int × (Int × (List Str) × Unit)) // JF gR f (Pc rI (Pc (rL rS) Pn)) rI (Pc rI (Pc (rM rS) Pn))} := ⟨_, by
 exact cj (S := cm) (N := 2) (W := []) (c := lZ) (Γn := []) (ro := rI) (Γp := [some ⟨cm.xn, rI⟩, some ⟨cm.xparts, (rL rS)⟩]) (Γr := [some ⟨cm.xn, rI⟩, some ⟨cm.xparts, (rM rS)⟩]) (init := (fun p => (⟨p.1, p.2.1⟩ : cm))) (al (get := cm.xn) dC (fun _ => rfl) fun _ => (al (get := cm.xparts) dC (fun _ => rfl) fun _ => bn))
  (am (cw (Γ' := [some ⟨cm.xn, rI⟩, some ⟨cm.xparts, (rL rS)⟩]) (bt (aQ ga (ae (dv jr (ai 1 rfl))) (ae (ap 2)))) cU bL)
  (bb (iQ (r := rI) (Γ' := [some ⟨cm.xn, rI⟩, some ⟨cm.xparts, (rM rS)⟩]) (bt (aQ cX (ae (dv jr (ai 1 rfl))) (ae (ap 2)))) (aF lK (aK 0 rfl (bS (z5 (gO 1 rfl) (ae (ap 1))) aI)) (bE 0 rfl (bR aH)) (bD 0 (bQ aG))) (ae (ap 0))))) (ak dC rfl (ak dC rfl aV))⟩
noncomputable def rH := ml.1
theorem tq : JF gR rH (Pc rI (Pc (rL rS) Pn)) rI (Pc rI (Pc (rM rS) Pn)) := ml.2
structure aX where
 xn : Int
 xterms : List (Int × Int)
 xrow : List Int
 xgroup : Int
 xnumber : Int
noncomputable def kx : {f : (Int × (List (Int × Int)) × Unit) -> Option ((List Int) × (Int × (List (Int × Int)) × Unit)) // JF fK f (Pc rI (Pc (rL (fm rI rI)) Pn)) (rL rI) (Pc rI (Pc (rM (fm rI rI)) Pn))} := ⟨_, by
 exact cj (S := aX) (N := 5) (W := [2, 3, 4]) (c := ko) (Γn := []) (ro := (rL rI)) (Γp := [some ⟨aX.xn, rI⟩, some ⟨aX.xterms, (rL (fm rI rI))⟩]) (Γr := [some ⟨aX.xn, rI⟩, some ⟨aX.xterms, (rM (fm rI rI))⟩, none, none, none]) (init := (fun p => (⟨p.1, p.2.1, [], 0, 0⟩ : aX))) (al (get := aX.xn) dC (fun _ => rfl) fun _ => (al (get := aX.xterms) dC (fun _ => rfl) fun _ => bn))
  (am (ba 2 (get := aX.xrow) (put := fun s v => {s with xrow := v}) (sZ (dE (r := rI) (cV (ae (ap 0)) dD)) (aF jX (aK 0 rfl aI) (bE 0 rfl aH) (bD 0 aG))))
  (am (fw (jq (gO 1 rfl)) Le.refl (qX (eG 3 (get := aX.xgroup) (put := fun s v => {s with xgroup := v})) (eG 4 (get := aX.xnumber) (put := fun s v => {s with xnumber := v}))) (cw (Γ' := [some ⟨aX.xn, rI⟩, some ⟨aX.xterms, (rM (fm rI rI))⟩, some ⟨aX.xrow, (rL rI)⟩, some ⟨aX.xgroup, rI⟩, some ⟨aX.xnumber, rI⟩]) (bt (aQ ib (ae (ai 3 rfl)) (ae (ap 0)))) (Bm 2 (get := aX.xrow) (put := fun s v => {s with xrow := v}) d6 (aC d6 (ai 3 rfl) (ap 1)) (ai 4 rfl) rfl) bL))
  (bb (qY 2 rfl)))) (ak dC rfl (ak dC rfl aV))⟩
noncomputable def pd := kx.1
theorem pM : JF fK pd (Pc rI (Pc (rL (fm rI rI)) Pn)) (rL rI) (Pc rI (Pc (rM (fm rI rI)) Pn)) := kx.2
structure cT where
 xn : Int
 xa : Int
 xb : Int
noncomputable def oU : {f : (Int × Int × Int × Unit) -> Option ((List Int) × (Int × Int × Int × Unit)) // JF iR f (Pc rI (Pc rI (Pc rI Pn))) (rL rI) (Pc rI (Pc rI (Pc rI Pn)))} := ⟨_, by
 exact cj (S := cT) (N := 3) (W := []) (c := oK) (Γn := []) (ro := (rL rI)) (Γp := [some ⟨cT.xn, rI⟩, some ⟨cT.xa, rI⟩, some ⟨cT.xb, rI⟩]) (Γr := [some ⟨cT.xn, rI⟩, some ⟨cT.xa, rI⟩, some ⟨cT.xb, rI⟩]) (init := (fun p => (⟨p.1, p.2.1, p.2.2.1⟩ : cT))) (al (get := cT.xn) dC (fun _ => rfl) fun _ => (al (get := cT.xa) dC (fun _ => rfl) fun _ => (al (get := cT.xb) dC (fun _ => rfl) fun _ => bn)))
  (bb (aF pM (aK 0 rfl (bS (dE (r := (fm rI rI)) (cV (z3 (ae (aC d6 (ai 1 rfl) (ai 2 rfl))) (ae (ap 1))) (cV (z3 (ae (ai 2 rfl)) (ae (eR (ap 1)))) dD))) aI)) (bE 0 rfl (bR aH)) (bD 0 (bQ aG)))) (ak dC rfl (ak dC rfl (ak dC rfl aV)))⟩
noncomputable def vE := oU.1
theorem wc : JF iR vE (Pc rI (Pc rI (Pc rI Pn))) (rL rI) (Pc rI (Pc rI (Pc rI Pn))) := oU.2
structure cI where
 xn : Int
 xtext : Str
 xparts : List Str
 xknown : Int
noncomputable def m9 : {f : (Int × Str × Unit) -> Option ((List Int) × (Int × Str × Unit)) // JF ii f (Pc rI (Pc rS Pn)) (rL rI) (Pc rI (Pc rS Pn))} := ⟨_, by
 exact cj (S := cI) (N := 4) (W := [2, 3]) (c := mY) (Γn := []) (ro := (rL rI)) (Γp := [some ⟨cI.xn, rI⟩, some ⟨cI.xtext, rS⟩]) (Γr := [some ⟨cI.xn, rI⟩, some ⟨cI.xtext, rS⟩, none, none]) (init := (fun p => (⟨p.1, p.2.1, [], 0⟩ : cI))) (al (get := cI.xn) dC (fun _ => rfl) fun _ => (al (get := cI.xtext) dC (fun _ => rfl) fun _ => bn))
  (am (ba 2 (get := cI.xparts) (put := fun s v => {s with xparts := v}) (nI (ae (ai 1 rfl)) (ae (bx "|"))))
  (am (ba 3 (get := cI.xknown) (put := fun s v => {s with xknown := v}) (aF tq (aK 0 rfl (aK 2 rfl aI)) (bE 0 rfl (de 2 rfl aH)) (bD 0 (dd 2 (get := cI.xparts) (put := fun s v => {s with xparts := v}) (h := aG)))))
  (bb (aF wc (aK 0 rfl (bS (aF lK (aK 0 rfl (bS (ae (aC eu (ai 2 rfl) (ap 0))) aI)) (bE 0 rfl (bR aH)) (bD 0 (bQ aG))) (aK 3 rfl aI))) (bE 0 rfl (bR (bE 3 rfl aH))) (bD 0 (bQ (bD 3 aG))))))) (ak dC rfl (ak dC rfl aV))⟩
noncomputable def ud := m9.1
theorem uv : JF ii ud (Pc rI (Pc rS Pn)) (rL rI) (Pc rI (Pc rS Pn)) := m9.2
structure cR where
 xn : Int
 xtext : Str
noncomputable def nc : {f : (Int × Str × Unit) -> Option ((List Int) × (Int × Str × Unit)) // JF ij f (Pc rI (Pc rS Pn)) (rL rI) (Pc rI (Pc rS Pn))} := ⟨_, by
 exact cj (S := cR) (N := 2) (W := []) (c := mZ) (Γn := []) (ro := (rL rI)) (Γp := [some ⟨cR.xn, rI⟩, some ⟨cR.xtext, rS⟩]) (Γr := [some ⟨cR.xn, rI⟩, some ⟨cR.xtext, rS⟩]) (init := (fun p => (⟨p.1, p.2.1⟩ : cR))) (al (get := cR.xn) dC (fun _ => rfl) fun _ => (al (get := cR.xtext) dC (fun _ => rfl) fun _ => bn))
  (am (cw (Γ' := [some ⟨cR.xn, rI⟩, some ⟨cR.xtext, rS⟩]) (xJ (bt (lF (ae (ai 1 rfl)) (ae (bx "h(")))) (bt (Bp (ae (ai 1 rfl)) (ae (bx ")"))))) (bb (aF uv (aK 0 rfl (bS (lG (ae (ai 1 rfl)) (gq (ap 2)) (gq (eR (ap 1)))) aI)) (bE 0 rfl (bR aH)) (bD 0 (bQ aG)))) bL)
  cU) (ak dC rfl (ak dC rfl aV))⟩
noncomputable def jS := nc.1
theorem uw : JF ij jS (Pc rI (Pc rS Pn)) (rL rI) (Pc rI (Pc rS Pn)) := nc.2
structure bi where
 xn : Int
 xsign : Int
 xwords : List Str
 xnumber : Int
noncomputable def j2 : {f : (Int × Int × (List Str) × Unit) -> Option ((List Int) × (Int × Int × (List Str) × Unit)) // JF ie f (Pc rI (Pc rI (Pc (rM rS) Pn))) (rL rI) (Pc rI (Pc rI (Pc (rM rS) Pn)))} := ⟨_, by
 exact cj (S := bi) (N := 4) (W := [3]) (c := mW) (Γn := []) (ro := (rL rI)) (Γp := [some ⟨bi.xn, rI⟩, some ⟨bi.xsign, rI⟩, some ⟨bi.xwords, (rM rS)⟩]) (Γr := [some ⟨bi.xn, rI⟩, some ⟨bi.xsign, rI⟩, some ⟨bi.xwords, (rM rS)⟩, none]) (init := (fun p => (⟨p.1, p.2.1, p.2.2.1, 0⟩ : bi))) (al (get := bi.xn) dC (fun _ => rfl) fun _ => (al (get := bi.xsign) dC (fun _ => rfl) fun _ => (al (get := bi.xwords) dC (fun _ => rfl) fun _ => bn)))
  (am (cw (Γ' := [some ⟨bi.xn, rI⟩, some ⟨bi.xsign, rI⟩, some ⟨bi.xwords, (rM rS)⟩, some ⟨bi.xnumber, rI⟩]) (bt (aQ cX (ae (dv jr (ai 2 rfl))) (ae (ap 1)))) cU (cw (Γ' := [some ⟨bi.xn, rI⟩, some ⟨bi.xsign, rI⟩, some ⟨bi.xwords, (rM rS)⟩, some ⟨bi.xnumber, rI⟩]) (bt (aQ cX (ae (dv jr (ai 2 rfl))) (ae (ap 2)))) (ba 3 (get := bi.xnumber) (put := fun s v => {s with xnumber := v}) (aQ eT (ae (ai 1 rfl)) (aF tu (bS (ae (aC eu (ai 2 rfl) (ap 0))) (bS (ae (ap 1)) aI)) (bR (bR aH)) (bQ (bQ aG))))) cU))
  (bb (kL (jq (aF uw (aK 0 rfl (bS (ae (aC eu (ai 2 rfl) (eR (ap 1)))) aI)) (bE 0 rfl (bR aH)) (bD 0 (bQ aG)))) Le.refl (sY 4 rfl) (fun x6 => mI) (fun x6 => (ae (aC eT (ai 3 rfl) (ai 4 rfl))))))) (ak dC rfl (ak dC rfl (ak dC rfl aV)))⟩
noncomputable def d9 := j2.1
theorem ut : JF ie d9 (Pc rI (Pc rI (Pc (rM rS) Pn))) (rL rI) (Pc rI (Pc rI (Pc (rM rS) Pn))) := j2.2
structure bU where
 xn : Int
 xtext : Str
 xrow : List Int
 xsign : Int
 xwords : List Str
noncomputable def iV : {f : (Int × Str × Unit) -> Option ((List Int) × (Int × Str × Unit)) // JF iS f (Pc rI (Pc rS Pn)) (rL rI) (Pc rI (Pc rS Pn))} := ⟨_, by
 exact cj (S := bU) (N := 5) (W := [2, 3, 4, 2]) (c := oN) (Γn := []) (ro := (rL rI)) (Γp := [some ⟨bU.xn, rI⟩, some ⟨bU.xtext, rS⟩]) (Γr := [some ⟨bU.xn, rI⟩, some ⟨bU.xtext, rS⟩, none, none, none]) (init := (fun p => (⟨p.1, p.2.1, [], 0, []⟩ : bU))) (al (get := bU.xn) dC (fun _ => rfl) fun _ => (al (get := bU.xtext) dC (fun _ => rfl) fun _ => bn))
  (am (ba 2 (get := bU.xrow) (put := fun s v => {s with xrow := v}) (sZ (dE (r := rI) (cV (ae (ap 0)) dD)) (aF jX (aK 0 rfl aI) (bE 0 rfl aH) (bD 0 aG))))
  (am (cw (Γ' := [some ⟨bU.xn, rI⟩, some ⟨bU.xtext, rS⟩, some ⟨bU.xrow, (rL rI)⟩, none, none]) (bt (aQ cX (ae (ai 1 rfl)) (ae (bx "0")))) (bb (qY 2 rfl)) bL)
  (am (fw (jq (aF pL (aK 1 rfl aI) (bE 1 rfl aH) (bD 1 aG))) Le.refl (qX (eG 3 (get := bU.xsign) (put := fun s v => {s with xsign := v})) (eG 4 (get := bU.xwords) (put := fun s v => {s with xwords := v}))) (ba 2 (get := bU.xrow) (put := fun s v => {s with xrow := v}) (kL (CS (gO 2 rfl) (aF ut (aK 0 rfl (aK 3 rfl (aK 4 rfl aI))) (bE 0 rfl (bE 3 rfl (de 4 rfl aH))) (bD 0 (bD 3 (dd 4 (get := bU.xwords) (put := fun s v => {s with xwords := v}) (h := aG)))))) Le.refl (CU 5 6 rfl rfl) (fun x4 => mI) (fun x4 => (ae (aC d6 (ai 5 rfl) (ai 6 rfl)))))))
  (bb (qY 2 rfl))))) (ak dC rfl (ak dC rfl aV))⟩
noncomputable def fE := iV.1
theorem wd : JF iS fE (Pc rI (Pc rS Pn)) (rL rI) (Pc rI (Pc rS Pn)) := iV.2
structure ef where
 xword : Str
noncomputable def m8 : {f : (Str × Unit) -> Option (Str × (Str × Unit)) // JF ig f (Pc rS Pn) rS (Pc rS Pn)} := ⟨_, by
 exact cj (S := ef) (N := 1) (W := []) (c := mX) (Γn := []) (ro := rS) (Γp := [some ⟨ef.xword, rS⟩]) (Γr := [some ⟨ef.xword, rS⟩]) (init := (fun p => (⟨p.1⟩ : ef))) (al (get := ef.xword) dC (fun _ => rfl) fun _ => bn)
  (am (cw (Γ' := [some ⟨ef.xword, rS⟩]) (bt (aQ cX (ae (ai 0 rfl)) (ae (bx "=")))) (bb (ae (bx "="))) bL)
  (am (cw (Γ' := [some ⟨ef.xword, rS⟩]) (bt (aQ cX (ae (ai 0 rfl)) (ae (bx ">=")))) (bb (ae (bx ">"))) bL)
  cU)) (ak dC rfl aV)⟩
noncomputable def hU := m8.1
theorem uu : JF ig hU (Pc rS Pn) rS (Pc rS Pn) := m8.2
structure ce where
 xn : Int
 xtext : Str
 xwords : List Str
noncomputable def iH : {f : (Int × Str × Unit) -> Option (((List Int) × Str × Int) × (Int × Str × Unit)) // JF gc f (Pc rI (Pc rS Pn)) (du (rL rI) rS rI) (Pc rI (Pc rS Pn))} := ⟨_, by
 exact cj (S := ce) (N := 3) (W := [2]) (c := lg) (Γn := []) (ro := (du (rL rI) rS rI)) (Γp := [some ⟨ce.xn, rI⟩, some ⟨ce.xtext, rS⟩]) (Γr := [some ⟨ce.xn, rI⟩, some ⟨ce.xtext, rS⟩, none]) (init := (fun p => (⟨p.1, p.2.1, []⟩ : ce))) (al (get := ce.xn) dC (fun _ => rfl) fun _ => (al (get := ce.xtext) dC (fun _ => rfl) fun _ => bn))
  (am (ba 2 (get := ce.xwords) (put := fun s v => {s with xwords := v}) (nI (ae (ai 1 rfl)) (ae (bx " "))))
  (am (cw (Γ' := [some ⟨ce.xn, rI⟩, some ⟨ce.xtext, rS⟩, some ⟨ce.xwords, (rL rS)⟩]) (bt (aQ ga (ae (dv jr (ai 2 rfl))) (ae (ap 3)))) cU bL)
  (bb (wa (aF wd (aK 0 rfl (bS (mJ (ae (bx " ")) (CV (ai 2 rfl) jp (gq (eR (ap 2))))) aI)) (bE 0 rfl (bR aH)) (bD 0 (bQ aG))) (aF uu (bS (ae (aC eu (ai 2 rfl) (eR (ap 2)))) aI) (bR aH) (bQ aG)) (aF lJ (bS (ae (aC eu (ai 2 rfl) (eR (ap 1)))) aI) (bR aH) (bQ aG)))))) (ak dC rfl (ak dC rfl aV))⟩
noncomputable def iD := iH.1
theorem qM : JF gc iD (Pc rI (Pc rS Pn)) (du (rL rI) rS rI) (Pc rI (Pc rS Pn)) := iH.2
structure dY where
 yfound : List Int
 ydue : List Int
noncomputable def p0 : {f : ((List Int) × (List Int) × Unit) -> Option (Bool × ((List Int) × (List Int) × Unit)) // JF iZ f (Pc (rL rI) (Pc (rM rI) Pn)) rB (Pc (rL rI) (Pc (rM rI) Pn))} := ⟨_, by
 exact cj (S := dY) (N := 2) (W := []) (c := vj) (Γn := []) (ro := rB) (Γp := [some ⟨dY.yfound, (rL rI)⟩, some ⟨dY.ydue, (rM rI)⟩]) (Γr := [some ⟨dY.yfound, (rL rI)⟩, some ⟨dY.ydue, (rM rI)⟩]) (init := (fun p => (⟨p.1, p.2.1⟩ : dY))) (al (get := dY.yfound) dC (fun _ => rfl) fun _ => (al (get := dY.ydue) dC (fun _ => rfl) fun _ => bn))
  (am (cw (Γ' := [some ⟨dY.yfound, (rL rI)⟩, some ⟨dY.ydue, (rM rI)⟩]) (ia (gN (bt (ae (n8 lH (ai 0 rfl) (n5 "list"))))) (bt (ae (aC ib (ai 0 rfl) (ai 1 rfl))))) cU bL)
  (bb (aQ cX (Bo 1 (get := dY.ydue) (put := fun s v => {s with ydue := v}) (Bn (Γ2 := [none, none]) 0 (get := dY.yfound) (put := fun s v => {s with yfound := v}) (kL (jq (gO 0 rfl)) Le.refl (sY 2 rfl) (fun x7 => (ia (bt (ae (n8 lH (ai 2 rfl) (n5 "bool")))) (gN (bt (ae (n8 lH (ai 2 rfl) (n5 "int"))))))) (fun x7 => (gO 2 rfl))) (by repeat (first | exact Tw.nil | refine Tw.som inferInstance ?_ | refine Tw.non ?_)) rfl) rfl) (dE (dD (r := rI)))) inferInstance (by first | exact Le.refl | (repeat (first | exact Le.nil | refine Le.som inferInstance ?_ | refine Le.non ?_))))) (ak dC rfl (ak dC rfl aV))⟩
noncomputable def pi := p0.1
theorem u8 : JF iZ pi (Pc (rL rI) (Pc (rM rI) Pn)) rB (Pc (rL rI) (Pc (rM rI) Pn)) := p0.2
structure av where
 yn : Int
 yrow_here : List Int
 ysign : Str
 ynumber_here : Int
 yhanded : (List Int) × Str × Int
 ytext : Str
 ytime : Int
 yfound : (List Int) × Str × Int
noncomputable def nP : {f : (Int × (List Int) × Str × Int × Unit) -> Option (Bool × (Int × (List Int) × Str × Int × Unit)) // JF jv f (Pc rI (Pc (rM rI) (Pc rS (Pc rI Pn)))) rB (Pc rI (Pc (rM rI) (Pc rS (Pc rI Pn))))} := ⟨_, by
 exact cj (S := av) (N := 8) (W := [4, 5, 6, 7]) (c := tY) (Γn := []) (ro := rB) (Γp := [some ⟨av.yn, rI⟩, some ⟨av.yrow_here, (rM rI)⟩, some ⟨av.ysign, rS⟩, some ⟨av.ynumber_here, rI⟩]) (Γr := [some ⟨av.yn, rI⟩, some ⟨av.yrow_here, (rM rI)⟩, some ⟨av.ysign, rS⟩, some ⟨av.ynumber_here, rI⟩, none, none, none, none]) (init := (fun p => (⟨p.1, p.2.1, p.2.2.1, p.2.2.2.1, ([], "", 0), "", 0, ([], "", 0)⟩ : av))) (al (get := av.yn) dC (fun _ => rfl) fun _ => (al (get := av.yrow_here) dC (fun _ => rfl) fun _ => (al (get := av.ysign) dC (fun _ => rfl) fun _ => (al (get := av.ynumber_here) dC (fun _ => rfl) fun _ => bn))))
  (am (ba 4 (get := av.yhanded) (put := fun s v => {s with yhanded := v}) (wa (zc (ai 1 rfl)) (ae (ai 2 rfl)) (ae (ai 3 rfl))))
  (am (ba 5 (get := av.ytext) (put := fun s v => {s with ytext := v}) (aF qL (aK 0 rfl (aK 4 rfl aI)) (bE 0 rfl (de 4 rfl aH)) (bD 0 (dd 4 (get := av.yhanded) (put := fun s v => {s with yhanded := v}) (h := aG)))))
  (am (cw (Γ' := [some ⟨av.yn, rI⟩, some ⟨av.yrow_here, (rM rI)⟩, some ⟨av.ysign, rS⟩, some ⟨av.ynumber_here, rI⟩, some ⟨av.yhanded, (du (rM rI) rS rI)⟩, some ⟨av.ytext, rS⟩, none, none]) (ia (gN (bt (ae (n8 lH (ai 5 rfl) (n5 "str"))))) (bt (aQ ib (ae (ai 5 rfl)) (aQ fI (aQ fI (aF zd (aK 1 rfl aI) (de 1 rfl aH) (dd 1 (get := av.yrow_here) (put := fun s v => {s with yrow_here := v}) (h := aG))) (ae (aC eu (sU (g8 (bx " = ") (g8 (bx " >= ") pK))) (dv mL (aC cX (ai 2 rfl) (bx ">")))))) (ae (dv u5 (ai 3 rfl))))))) cU bL)
  (am (fw (qW (ae (ap 2))) Le.refl (eG 6 (get := av.ytime) (put := fun s v => {s with ytime := v})) (am (ba 7 (get := av.yfound) (put := fun s v => {s with yfound := v}) (aF qM (aK 0 rfl (aK 5 rfl aI)) (bE 0 rfl (bE 5 rfl aH)) (bD 0 (bD 5 aG))))
  (am (cw (Γ' := [some ⟨av.yn, rI⟩, some ⟨av.yrow_here, (rM rI)⟩, some ⟨av.ysign, rS⟩, some ⟨av.ynumber_here, rI⟩, some ⟨av.yhanded, (du (rM rI) rS rI)⟩, some ⟨av.ytext, rS⟩, some ⟨av.ytime, rI⟩, some ⟨av.yfound, (du (rL rI) rS rI)⟩]) (ia (gN (bt (ae (n8 lH (ai 7 rfl) (n5 "tuple"))))) (ia (bt (aQ ib (ae (dv Br (ai 7 rfl))) (ae (ap 3)))) (ia (gN (bt (u3 7 rfl v7 (tj u8 (xP 7 rfl v7 (C2 1 rfl u7)) (xO 7 (put := fun s v => {s with yfound := v}) rfl zU (by intro _ _; rfl) (by intro _; repeat (first | exact Fr.nil | refine Fr.som (fun _ _ h => h) ?_ | refine Fr.non ?_)) (CZ 1 (get := av.yrow_here) (put := fun s v => {s with yrow_here := v}) (by intro _ _; rfl) (by intro _; repeat (first | exact Fr.nil | refine Fr.som (fun _ _ h => h) ?_ | refine Fr.non ?_)) u4)))))) (bt (aQ ib (ae (n6 zL (ai 7 rfl))) (ae (ai 2 rfl))))))) cU bL)
  (am (cw (Γ' := [some ⟨av.yn, rI⟩, some ⟨av.yrow_here, (rM rI)⟩, some ⟨av.ysign, rS⟩, some ⟨av.ynumber_here, rI⟩, some ⟨av.yhanded, (du (rM rI) rS rI)⟩, some ⟨av.ytext, rS⟩, some ⟨av.ytime, rI⟩, some ⟨av.yfound, (du (rL rI) rS rI)⟩]) (gN (bt (aF u8 (bS (dE (r := rI) (cV (ae (n6 zK (ai 7 rfl))) dD)) (bS (dE (r := rI) (cV (ae (ai 3 rfl)) dD)) aI)) (bR (bR aH)) (bQ (bQ aG))))) cU bL)
  (iY (xN 7 (get := av.yfound) (put := fun s v => {s with yfound := v}) rfl))))))
  (bb (CW 4 cX rfl rfl (wa (gO 1 rfl) (ae (ai 2 rfl)) (ae (ai 3 rfl))))))))) (ak dC rfl (ak dC rfl (ak dC rfl (ak dC rfl aV))))⟩
noncomputable def nq := nP.1
theorem tw : JF jv nq (Pc rI (Pc (rM rI) (Pc rS (Pc rI Pn)))) rB (Pc rI (Pc (rM rI) (Pc rS (Pc rI Pn)))) := nP.2
structure cg where
 yscript : List Int
 yturn : Int
 ypile_here : List Int
 yn : Int
 yrow_here : List Int
 ynumber_here : Int
 ysign : Str
noncomputable def wu : {f : ((List Int) × Unit) -> Option (Bool × ((List Int) × Unit)) // JF jK f (Pc (rM rI) Pn) rB (Pc (rM rI) Pn)} := ⟨_, by
 exact cj (S := cg) (N := 7) (W := [1, 2, 3, 4, 5, 6]) (c := Ac) (Γn := []) (ro := rB) (Γp := [some ⟨cg.yscript, (rM rI)⟩]) (Γr := [some ⟨cg.yscript, (rM rI)⟩, none, none, none, none, none, none]) (init := (fun p => (⟨p.1, 0, [], 0, [], 0, ""⟩ : cg))) (al (get := cg.yscript) dC (fun _ => rfl) fun _ => bn)
  (am (fw (qW (ae (ap 4))) Le.refl (eG 1 (get := cg.yturn) (put := fun s v => {s with yturn := v})) (am (ba 2 (get := cg.ypile_here) (put := fun s v => {s with ypile_here := v}) (aF u9 (aK 0 rfl (bS (ae (aC eT (ap 16) (ai 1 rfl))) aI)) (de 0 rfl (bR aH)) (dd 0 (get := cg.yscript) (put := fun s v => {s with yscript := v}) (h := bQ aG))))
  (am (ba 3 (get := cg.yn) (put := fun s v => {s with yn := v}) (aQ d6 (ae (ap 1)) (aF g9 (aK 2 rfl (bS (ae (ap 4)) aI)) (de 2 rfl (bR aH)) (dd 2 (get := cg.ypile_here) (put := fun s v => {s with ypile_here := v}) (h := bQ aG)))))
  (am (ba 4 (get := cg.yrow_here) (put := fun s v => {s with yrow_here := v}) (aF C3 (aK 0 rfl (bS (ae (aC eT (ap 16) (ai 1 rfl))) (aK 3 rfl aI))) (de 0 rfl (bR (bE 3 rfl aH))) (dd 0 (get := cg.yscript) (put := fun s v => {s with yscript := v}) (h := bQ (bD 3 aG)))))
  (am (ba 5 (get := cg.ynumber_here) (put := fun s v => {s with ynumber_here := v}) (aF qe (aK 2 rfl aI) (de 2 rfl aH) (dd 2 (get := cg.ypile_here) (put := fun s v => {s with ypile_here := v}) (h := aG))))
  (fw (Γh := [some ⟨cg.yscript, (rM rI)⟩, some ⟨cg.yturn, rI⟩, some ⟨cg.ypile_here, (rL rI)⟩, some ⟨cg.yn, rI⟩, some ⟨cg.yrow_here, (rM rI)⟩, some ⟨cg.ynumber_here, rI⟩, none]) (jq (dE (r := rS) (cV (ae (bx "=")) (cV (ae (bx ">")) dD)))) (by repeat (first | exact Le.nil | refine Le.som inferInstance ?_ | refine Le.non ?_)) (eG 6 (get := cg.ysign) (put := fun s v => {s with ysign := v})) (cw (Γ' := [some ⟨cg.yscript, (rM rI)⟩, some ⟨cg.yturn, rI⟩, some ⟨cg.ypile_here, (rL rI)⟩, some ⟨cg.yn, rI⟩, some ⟨cg.yrow_here, (rM rI)⟩, some ⟨cg.ynumber_here, rI⟩, some ⟨cg.ysign, rS⟩]) (ia (gN (bt (aF tw (aK 3 rfl (aK 4 rfl (aK 6 rfl (aK 5 rfl aI)))) (bE 3 rfl (de 4 rfl (bE 6 rfl (bE 5 rfl aH)))) (bD 3 (dd 4 (get := cg.yrow_here) (put := fun s v => {s with yrow_here := v}) (h := bD 6 (bD 5 aG))))))) (gN (bt (aF tw (aK 3 rfl (bS (sZ (dE (r := rI) (cV (ae (ap 0)) dD)) (ae (dv jr (ai 4 rfl)))) (aK 6 rfl (aK 5 rfl aI)))) (bE 3 rfl (bR (bE 6 rfl (bE 5 rfl aH)))) (bD 3 (bQ (bD 6 (bD 5 aG)))))))) cU bL)))))))
  (bb (ae (Fw true)))) (ak dC rfl aV)⟩
noncomputable def vG := wu.1
theorem Eu : JF jK vG (Pc (rM rI) Pn) rB (Pc (rM rI) Pn) := wu.2
end LW
namespace LW
open PySem L2 DD TT TX
theorem vI {x : Str} (h : ∀ c ∈ x.cps.toList, c < 1114112) : Py.ok TT.rS x = true := by
 show x.cps.all (fun c => decide (c < 1114112)) = true;rw [<- Array.all_toList, List.all_eq_true];intro c hc;exact decide_eq_true (h c hc)
theorem gp {x y : Str} (hx : ∀ c ∈ x.cps.toList, c < 1114112) (hy : ∀ c ∈ y.cps.toList, c < 1114112) : (Py.ok TT.rS x && Py.ok TT.rS y && decide (min (Py.k TT.rS) (Py.k TT.rS) <= 50)) = true := by
 rw [vI hx, vI hy]; rfl
theorem i9 {x y : Str} (h : x.cps.toList ≠ y.cps.toList) : (x == y) = false := by
 rw [beq_eq_false_iff_ne];intro e;rw [e] at h;exact h rfl
theorem kt : (Str.ofString "-").cps.toList = [45] := by decide +kernel
theorem ye : (Str.ofString "+").cps.toList = [43] := by decide +kernel
theorem jO : (Str.ofString " ").cps.toList = [32] := by decide +kernel
theorem m6 : (Str.ofString "0").cps.toList = [48] := by decide +kernel
theorem jN : (Str.ofString "").cps.toList = [] := by decide +kernel
theorem Ae : (Str.ofString " - ").cps.toList = [32, 45, 32] := by decide +kernel
theorem Ad : (Str.ofString " + ").cps.toList = [32, 43, 32] := by decide +kernel
theorem jm {c : Nat} {y : Str} (h : y.cps.toList = [c]) (hc : c < 128) : ∀ d ∈ y.cps.toList, d < 1114112 := fun d hd => by
 rw [h] at hd;simp at hd;omega
theorem uC {n : Nat} (h : n <= 100000) : n <= sizeLine := by
 have hz : sizeLine = 16777216 := rfl;omega
theorem eK {n : Nat} (h : n <= 100000) : decide (n <= sizeLine) = true := decide_eq_true (uC h)
noncomputable def ET (c : Nat) : Bool := !(Builtin.Str.occurrences (Str.ofString "0123456789") ⟨#[c]⟩ 0 (Str.ofString "0123456789").length 1).isEmpty
theorem BA : ((List.range 10).all fun k => ET (48 + k)) = true := by decide +kernel
theorem xT {c : Nat} (h : 48 <= c /\ c <= 57) : ET c = true := by
 have := List.all_eq_true.mp BA (c - 48) (List.mem_range.mpr oM)
 rw [show 48 + (c - 48) = c by omega] at this;exact this
theorem nE {a b : Int} : (Py.ok rI a && Py.ok rI b && decide (min (Py.k rI) (Py.k rI) <= 50)) = true := rfl
theorem yK {x : Str} {n : Int} {c : Nat} {r : List Nat} (hx : x.cps.toList = c :: r) (hc : 49 <= c /\ c <= 57) (hd : NumText.AllDigits x.cps.toList) (hl : x.length <= 40) (hn : intText? x = some n) : cJ (x, ()) = some (n, x, ()) := by
 have e1 : Txt.startswith x (Str.ofString "-") = false := by
  rw [kE kt, hx];exact beq_false_of_ne oM
 have hlx : x.length = r.length + 1 := by rw [bc, hx]; rfl
 have d1 : decide ((x.length : Int) < 1) = false := decide_eq_false oM;have d2 : decide ((2000 : Int) < (x.length : Int)) = false := decide_eq_false oM;have a1 : (x.cps.all fun c => decide (c < 128)) = true := by
  rw [<- Array.all_toList, List.all_eq_true];intro c hc
  have := hd c hc
  exact decide_eq_true oM
 have hs : (signs x).length = x.length := by unfold signs; rw [List.length_map, <- bc]
 have all1 : ((signs x).map fun y => !(Builtin.Str.occurrences (Str.ofString "0123456789") y 0 (Str.ofString "0123456789").length 1).isEmpty).all id = true := by
  rw [List.all_map, List.all_eq_true];intro y hy;unfold signs at hy;obtain ⟨c', hc', rfl⟩ := List.mem_map.mp hy;exact xT (hd c' hc')
 have at0 : qq x 0 = some ⟨#[c]⟩ := by
  unfold qq;rw [if_pos (uC oM), hx];show (L2.atI (c :: r) ((0 : Nat) : Int)).map _ = _;rw [L2.atI_nat (show (c :: r)[0]? = some c from rfl)];rfl
 have ne0 : ((⟨#[c]⟩ : Str) == Str.ofString "0") = false := i9 (by rw [m6]; show [c] ≠ [48]; intro h; injection h; omega);have o0 : (Py.ok TT.rS (⟨#[c]⟩ : Str) && Py.ok TT.rS (Str.ofString "0") && decide (min (Py.k TT.rS) (Py.k TT.rS) <= 50)) = true := gp (fun d h => by
  have : d = c := by simpa using h
  omega) (jm m6 dC)
 have hl6 : decide (x.length <= 640) = true := decide_eq_true oM;unfold cJ gj;simp only [TT.tSeq, bind_some, map_some, e1, Bool.false_eq_true, if_false];have hsz : (if x.length <= sizeLine then some (x.length : Int) else none) = some (x.length : Int) := if_pos (uC oM);simp only [bind_some, map_some, hsz, d1, d2, Bool.false_eq_true, if_false, aq a1];rw [aq (gY oM), n4 (f := fun y => !(Builtin.Str.occurrences (Str.ofString "0123456789") y 0 (Str.ofString "0123456789").length 1).isEmpty) (fun _ _ => rfl) (fun _ _ => rfl)];simp only [bind_some, map_some, all1, Bool.not_true, Bool.false_eq_true, if_false, at0, aq o0, ne0, hn, aq hl6]
theorem si {m : Nat} (h1 : 1 <= m) (h : m < 10 ^ 40) : cJ (cf (m : Int), ()) = some ((m : Int), cf (m : Int), ()) := by
 obtain ⟨c, r, hx, hc⟩ := kK h1;exact yK hx hc (eU m) (gx h) (y0 h)
theorem Gg : decide ((0 : Int) <= 40 /\ (40 : Int) <= 1000000 /\ Int.natAbs 10 < 2 ^ 64) = true := by decide
theorem uJ {x : Str} {n : Int} (hx : cJ (x, ()) = some (n, x, ())) (h : n.natAbs < 10 ^ 40) : gA (x, ()) = some (n, x, ()) := by
 have hd : decide ((10 : Int) ^ Int.toNat 40 <= if n < 0 then -n else n) = false := by
  refine decide_eq_false ?_;have e : (10 : Int) ^ Int.toNat 40 = ((10 ^ 40 : Nat) : Int) := by decide
  rw [e];split <;> omega
 unfold gA jD;simp only [TT.tSeq, bind_some, map_some, hx, aq Gg, hd, Bool.false_eq_true, if_false]
theorem AI {m : Nat} (h1 : 1 <= m) (h : m < 10 ^ 40) : gB (cf (m : Int), 1, ()) = some ((m : Int), cf (m : Int), 1, ()) := by
 have hd : decide ((m : Int) < 1) = false := decide_eq_false oM;unfold gB jE;simp only [TT.tSeq, bind_some, map_some, uJ (si h1 h) (by simpa using h), hd, Bool.false_eq_true, if_false]
theorem zY {a : Str} {ys : List Str} {b n : Nat} (h : ∀ p ∈ ys, p.length <= b) (hn : ys.length <= n) (hb : n * (b + a.length) <= 16777216) : oa a ys = true := by
 refine decide_eq_true ?_;have h1 := BS h;have h2 : ys.length * b <= n * b := Nat.mul_le_mul_right _ hn;have h3 : ys.length * a.length <= n * a.length := Nat.mul_le_mul_right _ hn;rw [Nat.mul_add] at hb;omega
theorem uD {y : Str} {ps : List Str} {b n : Nat} (hy : (y.length == 0) = false) (hs : Txt.split (Txt.join y ps) y = ps) (h : ∀ p ∈ ps, p.length <= b) (hn : ps.length <= n) (hb : n * (b + y.length) <= 16777216) (hn2 : n <= 16777216) : g6 (Txt.join y ps) y = true := by
 have h1 := sW (y := y) h;have h2 : ps.length * (b + y.length) <= n * (b + y.length) := Nat.mul_le_mul_right _ hn;have hz : sizeLine = 16777216 := rfl;unfold g6;rw [hy, hs, decide_eq_true oM, decide_eq_true oM];rfl
structure Wd (w : Str) : Prop where
 nb : 32 ∉ w.cps.toList
 np : w.cps.toList ≠ [43]
 nm : w.cps.toList ≠ [45]
 ok : ∀ c ∈ w.cps.toList, c < 128
 ln : w.length <= 100
noncomputable def ip (s : Int) : Str := if s = 1 then Str.ofString "+" else Str.ofString "-"
noncomputable abbrev fC := Int × List Str
structure Pk (p : fC) : Prop where
 s : p.1 = 1 \/ p.1 = -1
 l : 1 <= p.2.length /\ p.2.length <= 2
 w : ∀ w ∈ p.2, Wd w
noncomputable def cz : List fC -> List Str
 | [] => []
 | q :: qs => ip q.1 :: (q.2 ++ cz qs)
noncomputable def body (p : fC) (ps : List fC) : Str := Txt.join (Str.ofString " ") (p.2 ++ cz ps)
noncomputable def dA (p : fC) (ps : List fC) : Str := if p.1 = 1 then body p ps else Str.ofString "-" ++ body p ps
theorem vK {s : Int} : ∀ c ∈ (ip s).cps.toList, c = 43 \/ c = 45 := fun c hc => by
 unfold ip at hc;split at hc
 ·rw [ye] at hc; simp at hc; exact .inl hc
 ·rw [kt] at hc; simp at hc; exact .inr hc
theorem DN (s : Int) : (ip s).length <= 100 := by
 unfold ip;split
 ·rw [bc, ye]; decide
 ·rw [bc, kt]; decide
theorem qb : ∀ {ps : List fC}, (∀ p ∈ ps, Pk p) -> (cz ps).length <= 3 * ps.length := by
 intro ps
 induction ps with
 | nil => intro _; simp [cz]
 | cons p ps ih =>
  intro h;have h1 := ih fun q hq => h q (List.mem_cons_of_mem _ hq)
  have h2 := (h p (by simp)).l.2;simp only [cz, List.length_cons, List.length_append];omega
theorem sf : ∀ {ps : List fC}, (∀ p ∈ ps, Pk p) -> ∀ w ∈ cz ps, 32 ∉ w.cps.toList /\ w.length <= 100 /\ ∀ c ∈ w.cps.toList, c < 128 := by
 intro ps
 induction ps with
 | nil => intro _ w hw; cases hw
 | cons p ps ih =>
  intro h w hw;simp only [cz, List.mem_cons, List.mem_append] at hw;rcases hw with rfl | hw | hw
  ·exact ⟨fun hc => by have := vK _ hc; omega, DN _, fun c hc => by have := vK _ hc; omega⟩
  ·have := (h p (by simp)).w w hw
   exact ⟨this.nb, this.ln, this.ok⟩
  ·exact ih (fun q hq => h q (List.mem_cons_of_mem _ hq)) w hw
section
variable {p : fC} {ps : List fC}
theorem oS (hp : Pk p) (h : ∀ p ∈ ps, Pk p) : ∀ w ∈ p.2 ++ cz ps, 32 ∉ w.cps.toList /\ w.length <= 100 /\ ∀ c ∈ w.cps.toList, c < 128 := fun w hw => by
 rcases List.mem_append.mp hw with hw | hw
 ·have := hp.w w hw
  exact ⟨this.nb, this.ln, this.ok⟩
 ·exact sf h w hw
theorem vm (hp : Pk p) (h : ∀ p ∈ ps, Pk p) (hl : ps.length <= 40) : (p.2 ++ cz ps).length <= 200 := by
 have := qb h
 have := hp.l.2
 rw [List.length_append];omega
theorem oR (hp : Pk p) (h : ∀ p ∈ ps, Pk p) : Txt.split (body p ps) (Str.ofString " ") = p.2 ++ cz ps :=
 nS (m := 32) (off := 0) (by rw [bc, jO]; decide) (by rw [jO]; rfl) (fun k e => by
  rw [jO] at e
  match k, e with
  | 0, _ => rfl
  | k + 1, e => simp at e) (by decide +kernel) (by
   intro e;have e2 := congrArg List.length e
   have := hp.l.1
   rw [List.length_append] at e2;simp only [List.length_nil] at e2;omega) (fun w hw => (oS hp h w hw).1)
theorem lE : (Str.ofString " ").length = 1 := by decide +kernel
theorem zx (hp : Pk p) (h : ∀ p ∈ ps, Pk p) (hl : ps.length <= 40) : g6 (body p ps) (Str.ofString " ") = true :=
 uD (b := 100) (n := 200) (by rw [lE]; rfl) (oR hp h) (fun w hw => (oS hp h w hw).2.1) (vm hp h hl) (by rw [lE]; decide) dC
theorem zy (hp : Pk p) (h : ∀ p ∈ ps, Pk p) (hl : ps.length <= 40) : (body p ps).length <= 20200 := by
 have h1 := sW (y := Str.ofString " ") (ps := p.2 ++ cz ps) (b := 100) (fun w hw => (oS hp h w hw).2.1);have h2 := vm hp h hl;rw [lE] at h1;show (Txt.join _ _).length <= _;omega
theorem yh (hp : Pk p) (h : ∀ p ∈ ps, Pk p) : ∀ c ∈ (body p ps).cps.toList, c < 128 := fun c hc => by
 rcases sV hc with hc | ⟨w, hw, hc⟩
 ·rw [jO] at hc; simp at hc; omega
 ·exact (oS hp h w hw).2.2 c hc
theorem DC (hp : Pk p) (h : ∀ p ∈ ps, Pk p) : ∀ c ∈ (dA p ps).cps.toList, c < 128 := fun c hc => by
 unfold dA at hc;split at hc
 ·exact yh hp h c hc
 ·rcases i3 hc with hc | hc
  ·rw [kt] at hc; simp at hc; omega
  ·exact yh hp h c hc
theorem Aw (hp : Pk p) (h : ∀ p ∈ ps, Pk p) (hl : ps.length <= 40) : (dA p ps).length <= 20201 := by
 have := zy hp h hl
 unfold dA;split
 ·omega
 ·rw [aU, show (Str.ofString "-").length = 1 by decide +kernel]; omega
end
noncomputable def Dq (ps : List fC) (s : ag) : Prop := s.xsigns = ps.map (·.1) /\ s.xterms = ps.map (·.2)
theorem AF {put : ag -> Str -> ag} {b : ag -> Option (TR ag (List (Int × List Str)))} {t : Str}
  (hW : ∀ s w T l, Wd w -> s.xterms = T ++ [l] -> l.length <= 5 -> s.xtext = t -> ∃ s', b (put s w) = some (.nx s') /\ s'.xsigns = s.xsigns /\ s'.xterms = T ++ [l ++ [w]] /\ s'.xtext = t)
  (hS : ∀ s g, (g = 1 \/ g = -1) -> s.xsigns.length <= 100 -> s.xterms.length <= 100 -> s.xtext = t -> ∃ s', b (put s (ip g)) = some (.nx s') /\ s'.xsigns = s.xsigns ++ [g] /\ s'.xterms = s.xterms ++ [[]] /\ s'.xtext = t) :
  ∀ (ps : List fC) {s : ag} {qs : List fC}, (∀ p ∈ ps, Pk p) -> qs.length + ps.length <= 60 -> Dq qs s -> s.xtext = t -> ∃ s', cD put b (cz ps) s = some (.nx s') /\ Dq (qs ++ ps) s' /\ s'.xtext = t := by
 have words : ∀ (ws : List Str) {s : ag} {T : List (List Str)} {l : List Str} {cO : List Str}, (∀ w ∈ ws, Wd w) -> l.length + ws.length <= 5 -> s.xterms = T ++ [l] -> s.xtext = t -> ∃ s', cD put b (ws ++ cO) s = cD put b cO s' /\ s'.xsigns = s.xsigns /\ s'.xterms = T ++ [l ++ ws] /\ s'.xtext = t := by
  intro ws
  induction ws with
  | nil => intro s T l cO _ _ e1 e2; exact ⟨s, rfl, rfl, by rw [e1]; simp, e2⟩
  | cons w ws ih =>
   intro s T l cO h hl e1 e2;simp only [List.length_cons] at hl;obtain ⟨s1, q1, q2, q3, q4⟩ := hW s w T l (h w (by simp)) e1 oM e2;obtain ⟨s2, p1, p2, p3, p4⟩ := ih (cO := cO) (fun x hx => h x (List.mem_cons_of_mem _ hx)) (by rw [List.length_append, List.length_singleton]; omega) q3 q4;refine ⟨s2, ?_, by rw [p2, q2], by rw [p3]; simp, p4⟩;rw [List.cons_append];simp only [cD, q1, bind_some, p1]
 intro ps
 induction ps with
 | nil => intro s qs _ _ h e; exact ⟨s, rfl, by simpa using h, e⟩
 | cons p ps ih =>
  intro s qs hp hl h e;simp only [List.length_cons] at hl;obtain ⟨s1, q1, q2, q3, q4⟩ := hS s p.1 (hp p (by simp)).s (by rw [h.1, List.length_map]; omega) (by rw [h.2, List.length_map]; omega) e;obtain ⟨s2, p1, p2, p3, p4⟩ := words p.2 (s := s1) (T := s.xterms) (l := []) (cO := cz ps) (hp p (by simp)).w (by have := (hp p (by simp)).l.2; simp only [List.length_nil]; omega) q3 q4;obtain ⟨s3, r1, r2, r3⟩ := ih (s := s2) (qs := qs ++ [p]) (fun q hq => hp q (List.mem_cons_of_mem _ hq)) (by rw [List.length_append, List.length_singleton]; omega) ⟨by rw [p2, q2, h.1]; simp, by rw [p3, h.2]; simp⟩ p4;refine ⟨s3, ?_, by simpa using r2, r3⟩;simp only [cz, cD, q1, bind_some, p1, r1]
theorem vz {put : ag -> Str -> ag} {b : ag -> Option (TR ag (List (Int × List Str)))} {t : Str}
  (hW : ∀ s w T l, Wd w -> s.xterms = T ++ [l] -> l.length <= 5 -> s.xtext = t -> ∃ s', b (put s w) = some (.nx s') /\ s'.xsigns = s.xsigns /\ s'.xterms = T ++ [l ++ [w]] /\ s'.xtext = t) :
  ∀ (ws : List Str) {s : ag} {T : List (List Str)} {l : List Str} {cO : List Str}, (∀ w ∈ ws, Wd w) -> l.length + ws.length <= 5 -> s.xterms = T ++ [l] -> s.xtext = t -> ∃ s', cD put b (ws ++ cO) s = cD put b cO s' /\ s'.xsigns = s.xsigns /\ s'.xterms = T ++ [l ++ ws] /\ s'.xtext = t := by
 intro ws
 induction ws with
 | nil => intro s T l cO _ _ e1 e2; exact ⟨s, rfl, rfl, by rw [e1]; simp, e2⟩
 | cons w ws ih =>
  intro s T l cO h hl e1 e2;simp only [List.length_cons] at hl;obtain ⟨s1, q1, q2, q3, q4⟩ := hW s w T l (h w (by simp)) e1 oM e2;obtain ⟨s2, p1, p2, p3, p4⟩ := ih (cO := cO) (fun x hx => h x (List.mem_cons_of_mem _ hx)) (by rw [List.length_append, List.length_singleton]; omega) q3 q4;refine ⟨s2, ?_, by rw [p2, q2], by rw [p3]; simp, p4⟩;rw [List.cons_append];simp only [cD, q1, bind_some, p1]
theorem zf {n : Nat} : L2.ixN (n + 1) (-1) = some n := by
 unfold L2.ixN;rw [if_neg dC, if_pos oM];congr 1;omega
theorem yC {α : Type} (T : List α) (l l' : α) : (T ++ [l]).set T.length l' = T ++ [l'] := by
 rw [List.set_append, if_neg oM, Nat.sub_self]; rfl
theorem BJ : ∀ ps : List fC, (ps.map (·.1)).zip (ps.map (·.2)) = ps := by
 intro ps
 induction ps with
 | nil => rfl
 | cons p ps ih => simp only [List.map_cons, List.zip_cons_cons, ih]
theorem BV {γ γ' : Type} {put : ag -> Str -> ag} {b : ag -> Option (TR ag (List (Int × List Str)))} {t : Str} {k : TR ag (List (Int × List Str)) -> Option γ'} {k2 : γ' -> Option γ} {p : fC} {ps : List fC} {s0 : ag} (Q : Option γ -> Prop) (hp : Pk p) (h : ∀ p ∈ ps, Pk p) (hl : ps.length <= 40)
  (hW : ∀ s w T l, Wd w -> s.xterms = T ++ [l] -> l.length <= 5 -> s.xtext = t -> ∃ s', b (put s w) = some (.nx s') /\ s'.xsigns = s.xsigns /\ s'.xterms = T ++ [l ++ [w]] /\ s'.xtext = t)
  (hS : ∀ s g, (g = 1 \/ g = -1) -> s.xsigns.length <= 100 -> s.xterms.length <= 100 -> s.xtext = t -> ∃ s', b (put s (ip g)) = some (.nx s') /\ s'.xsigns = s.xsigns ++ [g] /\ s'.xterms = s.xterms ++ [[]] /\ s'.xtext = t)
  (h1 : s0.xsigns = [p.1]) (h2 : s0.xterms = [[]]) (h3 : s0.xtext = t) (hk : ∀ s', Dq (p :: ps) s' -> s'.xtext = t -> Q ((k (.nx s')).bind k2)) : Q (((cD put b (p.2 ++ cz ps) s0).bind k).bind k2) := by
 obtain ⟨s1, e1, e2, e3, e4⟩ := vz hW p.2 (s := s0) (T := []) (l := []) (cO := cz ps) hp.w (by have := hp.l.2; simp only [List.length_nil]; omega) h2 h3;rw [e1];obtain ⟨s2, f1, f2, f3⟩ := AF hW hS ps (s := s1) (qs := [p]) h (by simp only [List.length_singleton]; omega) ⟨by rw [e2, h1]; rfl, by rw [e3]; rfl⟩ e4;rw [f1];exact hk s2 f2 f3
theorem yA {p : fC} {ps : List fC} (hp : Pk p) (h : ∀ p ∈ ps, Pk p) (hl : ps.length <= 40) (hd : ∃ c r, (body p ps).cps.toList = c :: r /\ c ≠ 45) : g5 (dA p ps, ()) = some (p :: ps, dA p ps, ()) := by
 obtain ⟨c, r, hbc, hc45⟩ := hd;have h0 : gZ ([] : List Str).length = true := gY (by simp);have h01 : gZ ([[]] : List (List Str)).length = true := gY (by simp);have hs1 : ∀ g : Int, gZ ([g] : List Int).length = true := fun g => gY (by simp)
 have ata : ∀ g : Int, L2.atI [g] 0 = some g := fun g => rfl
 have tl := Aw hp h hl;have st : Txt.startswith (dA p ps) (Str.ofString "-") = !decide (p.1 = 1) := by
  rw [kE kt];by_cases e1 : p.1 = 1
  ·rw [show dA p ps = body p ps from if_pos e1, hbc, decide_eq_true e1]
   exact beq_false_of_ne hc45
  ·rw [show dA p ps = Str.ofString "-" ++ body p ps from if_neg e1, aS, kt, decide_eq_false e1]
   rfl
 have src : ∀ s : ag, (if (p.1 == -1) = true then (if decide ((dA p ps).length <= sizeLine) = true then some (Txt.slice (dA p ps) (some 1) none, s) else none) else some (dA p ps, s)) = some (body p ps, s) := fun s => by
  rcases hp.s with e1 | e1
  ·rw [show dA p ps = body p ps from if_pos e1, e1]; rfl
  ·have e2 : dA p ps = Str.ofString "-" ++ body p ps := if_neg (by rw [e1]; decide)
   rw [if_pos (by rw [e1]; rfl), aq (eK oM), e2];congr 2;apply ext';rw [show (some (1 : Int)) = some ((1 : Nat) : Int) from rfl, kF (by rw [aU, show (Str.ofString "-").length = 1 by decide +kernel]; omega), aS, kt];rfl
 have first : (if Txt.startswith (dA p ps) (Str.ofString "-") = true then some ((-1 : Int), ({ xtext := dA p ps, xsigns := [], xterms := [], xword := Str.ofString "" } : ag)) else some (1, { xtext := dA p ps, xsigns := [], xterms := [], xword := Str.ofString "" })) = some (p.1, { xtext := dA p ps, xsigns := [], xterms := [], xword := Str.ofString "" }) := by
  rw [st];rcases hp.s with e1 | e1
  ·rw [e1]; rfl
  ·rw [e1]; rfl
 unfold g5 hJ;simp only [TT.tSeq, bind_some, map_some];rw [first];simp only [bind_some, map_some, aq (hs1 _), aq h0, aq h01, ata, aq nE];rw [src];simp only [bind_some, aq (zx hp h hl), oR hp h];refine BV (t := dA p ps) (fun o => o = some (p :: ps, dA p ps, ())) hp h hl ?_ ?_ rfl rfl rfl ?_
 ·rintro ⟨x1, x2, x3, x4⟩ w T l hw e1 e2 e3
  dsimp only at e1 e3;subst e1; subst e3;have o1 : (Py.ok TT.rS w && Py.ok TT.rS (Str.ofString "+") && decide (min (Py.k TT.rS) (Py.k TT.rS) <= 50)) = true := gp (fun c hc => by have := hw.ok c hc; omega) (jm ye dC);have o2 : (Py.ok TT.rS w && Py.ok TT.rS (Str.ofString "-") && decide (min (Py.k TT.rS) (Py.k TT.rS) <= 50)) = true := gp (fun c hc => by have := hw.ok c hc; omega) (jm kt dC);have n1 : (w == Str.ofString "+") = false := i9 (by rw [ye]; exact hw.np);have n2 : (w == Str.ofString "-") = false := i9 (by rw [kt]; exact hw.nm);have il : L2.ixN (T ++ [l]).length (-1) = some T.length := by rw [List.length_append, List.length_singleton]; exact zf
  have gl : (T ++ [l])[T.length]? = some l := by simp
  simp only [aq o1, aq o2, n1, n2, map_some, bind_some, Bool.false_eq_true, if_false, il, gl];rw [aq (sP oM)];simp only [map_some, yC];exact ⟨_, rfl, rfl, rfl, rfl⟩
 ·rintro ⟨x1, x2, x3, x4⟩ g hg e1 e2 e3
  dsimp only at e1 e2 e3;subst e3;have sc : ∀ c ∈ (ip g).cps.toList, c < 1114112 := fun c hc => by have := vK c hc; omega
  have o1 : (Py.ok TT.rS (ip g) && Py.ok TT.rS (Str.ofString "+") && decide (min (Py.k TT.rS) (Py.k TT.rS) <= 50)) = true := gp sc (jm ye dC);have o2 : (Py.ok TT.rS (ip g) && Py.ok TT.rS (Str.ofString "-") && decide (min (Py.k TT.rS) (Py.k TT.rS) <= 50)) = true := gp sc (jm kt dC);rcases hg with rfl | rfl
  ·have n1 : (ip 1 == Str.ofString "+") = true := by decide +kernel
   simp only [aq o1, aq o2, n1, map_some, bind_some, if_true];rw [aq (sP oM)];simp only [map_some, bind_some];rw [aq (sP oM)];exact ⟨_, rfl, rfl, rfl, rfl⟩
  ·have n1 : (ip (-1) == Str.ofString "+") = false := by decide +kernel
   have n2 : (ip (-1) == Str.ofString "-") = true := by decide +kernel
   simp only [aq o1, aq o2, n1, n2, map_some, bind_some, Bool.false_eq_true, if_false, if_true];rw [aq (sP oM)];simp only [map_some, bind_some];rw [aq (sP oM)];exact ⟨_, rfl, rfl, rfl, rfl⟩
 ·intro s' hq q3
  obtain ⟨q1, q2⟩ := hq;have hd2 : decide (s'.xsigns.length = s'.xterms.length /\ 1 <= s'.xsigns.length) = true := decide_eq_true (by rw [q1, q2]; simp);dsimp only;rw [aq hd2, q1, q2, BJ];simp only [map_some, bind_some, q3]
noncomputable def gw (a b : List Int) : List Int := (a.zip b).map fun z => z.1 + z.2
structure Nn (n : Int) (N : Nat) : Prop where
 an : jT (n, ()) = some ((N : Int), n, ())
 l : N <= 15
theorem zB {a b : List Int} {N : Nat} (ha : a.length = N) (hb : b.length = N) : (gw a b).length = N := by
 unfold gw; rw [List.length_map, List.length_zip, ha, hb]; omega
theorem wl (N : Nat) : (List.replicate N ([0] : List Int)).flatten = List.replicate N 0 := by
 induction N with
 | zero => rfl
 | succ N ih => rw [List.replicate_succ, List.flatten_cons, ih]; rfl
theorem BR : gZ ([0] : List Int).length = true := gY (by simp)
theorem vN {N : Nat} (h : N <= 15) : nw ([0] : List Int).length (N : Int) = true := DQ oM oM (by simp; omega)
theorem vM {n : Int} {N : Nat} (hn : Nn n N) : fE (n, Str.ofString "0", ()) = some (List.replicate N 0, n, Str.ofString "0", ()) := by
 have o : (Py.ok TT.rS (Str.ofString "0") && Py.ok TT.rS (Str.ofString "0") && decide (min (Py.k TT.rS) (Py.k TT.rS) <= 50)) = true := gp (jm m6 dC) (jm m6 dC);unfold fE iV;simp only [TT.tSeq, bind_some, map_some, aq BR, hn.an, aq (vN hn.l), Int.toNat_natCast, wl, aq o, beq_self_eq_true, if_true]
theorem C9 {S α ρ γ γ' δ : Type} {put : S -> α -> S} {b : S -> Option (TR S ρ)} {xs : List α} {s : S} {k : TR S ρ -> Option γ'} {k2 : γ' -> Option γ} (v : S -> δ) (f : δ -> α -> δ) (I : S -> Prop) (J : δ -> Prop) (Q : Option γ -> Prop) (hb : ∀ s x, x ∈ xs -> I s -> J (v s) -> ∃ s', b (put s x) = some (.nx s') /\ I s' /\ v s' = f (v s) x) (hj : ∀ c x, x ∈ xs -> J c -> J (f c x)) (h : I s) (j : J (v s))
  (hk : ∀ s', I s' -> v s' = xs.foldl f (v s) -> Q ((k (.nx s')).bind k2)) : Q (((cD put b xs s).bind k).bind k2) := by
 obtain ⟨s', e, p, q⟩ := qd hb hj h j;rw [e]; exact hk s' p q
theorem DO {n : Int} {N : Nat} (hn : Nn n N) {p : fC} {ps : List fC} {R : fC -> List Int} (hp : Pk p) (h : ∀ p ∈ ps, Pk p) (hl : ps.length <= 40) (hd : ∃ c r, (body p ps).cps.toList = c :: r /\ c ≠ 45) (h48 : (dA p ps).cps.toList ≠ [48])
  (hR : ∀ q ∈ p :: ps, d9 (n, q.1, q.2, ()) = some (R q, n, q.1, q.2, ()) /\ (R q).length = N) : fE (n, dA p ps, ()) = some ((p :: ps).foldl (fun c q => gw c (R q)) (List.replicate N 0), n, dA p ps, ()) := by
 have o : (Py.ok TT.rS (dA p ps) && Py.ok TT.rS (Str.ofString "0") && decide (min (Py.k TT.rS) (Py.k TT.rS) <= 50)) = true := gp (fun c hc => by have := DC hp h c hc; omega) (jm m6 dC);have ne : (dA p ps == Str.ofString "0") = false := i9 (by rw [m6]; exact h48);unfold fE iV;simp only [TT.tSeq, bind_some, map_some, aq BR, hn.an, aq (vN hn.l), Int.toNat_natCast, wl, aq o, ne, Bool.false_eq_true, if_false, yA hp h hl hd];refine C9 (S := bU) (α := fC) (fun s => s.xrow) (fun c q => gw c (R q)) (fun s => s.xn = n /\ s.xtext = dA p ps) (fun c => c.length = N) (fun o => o = some ((p :: ps).foldl (fun c q => gw c (R q)) (List.replicate N 0), n, dA p ps, ())) ?_ ?_ ⟨rfl, rfl⟩ (by simp) ?_
 ·rintro ⟨x1, x2, x3, x4, x5⟩ q hq ⟨f1, f2⟩ f3
  dsimp only at f1 f2 f3;subst f1; subst f2;obtain ⟨r1, r2⟩ := hR q hq;have hN := hn.l;simp only [r1, map_some, bind_some];rw [aq (gY (by rw [List.length_zip, f3, r2]; omega)), n4 (f := fun z : Int × Int => z.1 + z.2) (fun _ _ => rfl) (fun _ _ => rfl)];exact ⟨_, rfl, ⟨rfl, rfl⟩, rfl⟩
 ·intro c q hq hc
  exact zB hc (hR q hq).2
 ·rintro ⟨x1, x2, x3, x4, x5⟩ ⟨f1, f2⟩ f3
  dsimp only at f1 f2 f3;subst f1; subst f2;simp only [bind_some, f3]
noncomputable def jH (g : Nat) : Str := ⟨(((List.range 4).filter fun k => g.testBit k).map fun k => 97 + k).toArray⟩
noncomputable def dU (g : Nat) : Str := Str.ofString "h(" ++ jH g ++ Str.ofString ")"
noncomputable def jQ (N g : Nat) : List Int := List.replicate (g - 1) 0 ++ 1 :: List.replicate (N - g) 0
noncomputable def EW (g : Nat) : Bool := decide (i8 ((g : Int), ()) = some (jH g, (g : Int), ())) && (decide (kB ((g : Int), ()) = some (jH g, (g : Int), ())) && (((dU g).cps.toList.all fun c => decide (c < 128 /\ c ≠ 32)) && (decide (3 <= (dU g).length /\ (dU g).length <= 10) && decide ((jH g).length <= 10))))
theorem BE : ((List.range 15).all fun k => EW (k + 1)) = true := by decide +kernel
structure Gk (g : Nat) : Prop where
 sg : i8 ((g : Int), ()) = some (jH g, (g : Int), ())
 ll : kB ((g : Int), ()) = some (jH g, (g : Int), ())
 fc : ∀ c ∈ (dU g).cps.toList, c < 128 /\ c ≠ 32
 fl : 3 <= (dU g).length /\ (dU g).length <= 10
 tl : (jH g).length <= 10
theorem EB {g : Nat} (h : 1 <= g /\ g <= 15) : Gk g := by
 have := List.all_eq_true.mp BE (g - 1) (List.mem_range.mpr oM)
 rw [show g - 1 + 1 = g by omega] at this;simp only [EW, Bool.and_eq_true, decide_eq_true_eq, List.all_eq_true] at this;exact ⟨this.1, this.2.1, this.2.2.1, this.2.2.2.1, this.2.2.2.2⟩
noncomputable def vh (n : Nat) : Bool := decide (jT ((n : Int), ()) = some (((2 ^ n - 1 : Nat) : Int), (n : Int), ())) && (List.range (2 ^ n - 1)).all fun k => decide (jS ((n : Int), dU (k + 1), ()) = some (jQ (2 ^ n - 1) (k + 1), (n : Int), dU (k + 1), ()))
theorem BF : (vh 1 && (vh 2 && (vh 3 && vh 4))) = true := by decide +kernel
structure Fk (n N : Nat) : Prop where
 e : N = 2 ^ n - 1
 b : 1 <= n /\ n <= 4
 nn : Nn (n : Int) N
 rf : ∀ g, 1 <= g -> g <= N -> jS ((n : Int), dU g, ()) = some (jQ N g, (n : Int), dU g, ())
theorem EE {n : Nat} (h : 1 <= n /\ n <= 4) : Fk n (2 ^ n - 1) := by
 have hc := BF;simp only [Bool.and_eq_true] at hc;have hn : vh n = true := by
  have : n = 1 \/ n = 2 \/ n = 3 \/ n = 4 := by omega
  rcases this with rfl | rfl | rfl | rfl
  ·exact hc.1
  ·exact hc.2.1
  ·exact hc.2.2.1
  ·exact hc.2.2.2
 have hN : 2 ^ n <= 2 ^ 4 := Nat.pow_le_pow_right dC h.2;simp only [vh, Bool.and_eq_true, decide_eq_true_eq, List.all_eq_true] at hn;refine ⟨rfl, h, ⟨hn.1, by omega⟩, fun g h1 h2 => ?_⟩
 have := hn.2 (g - 1) (List.mem_range.mpr oM)
 rw [show g - 1 + 1 = g by omega] at this;exact this
noncomputable abbrev En := Int × Int
structure Ek (N : Nat) (e : En) : Prop where
 g : 1 <= e.1 /\ e.1 <= (N : Int)
 x : e.2 ≠ 0
 b : e.2.natAbs < 10 ^ 40
noncomputable def db (x : Int) : Str := cf ((x.natAbs : Nat) : Int)
noncomputable def pc (e : En) : fC := (if e.2 < 0 then -1 else 1, [db e.2, dU e.1.toNat])
theorem BL {x : Int} (hx : x ≠ 0) (hb : x.natAbs < 10 ^ 40) : Wd (db x) := by
 obtain ⟨c, r, e, hc⟩ := kK (m := x.natAbs) oM;have hd := eU x.natAbs;refine ⟨fun h => by have := hd _ h; omega, ?_, ?_, fun c hc => by have := hd c hc; omega, Nat.le_trans (gx hb) dC⟩
 ·show (cf _).cps.toList ≠ _
  rw [e]; intro h; injection h; omega
 ·show (cf _).cps.toList ≠ _
  rw [e]; intro h; injection h; omega
theorem wB {g : Nat} (h : Gk g) : Wd (dU g) := by
 have hl := h.fl;rw [bc] at hl;refine ⟨fun hc => (h.fc _ hc).2 rfl, fun e => ?_, fun e => ?_, fun c hc => (h.fc c hc).1, by have := h.fl.2; omega⟩
 ·rw [e] at hl; simp at hl
 ·rw [e] at hl; simp at hl
section
variable {n N : Nat} {e : En}
theorem Ek.gk (h : Ek N e) (hN : N <= 15) : Gk e.1.toNat := EB (by have := h.g; omega)
theorem nW (h : Ek N e) (hN : N <= 15) : Pk (pc e) := by
 refine ⟨?_, ⟨by show 1 <= 2; decide, by show 2 <= 2; decide⟩, fun w hw => ?_⟩
 ·show (if e.2 < 0 then (-1 : Int) else 1) = 1 \/ (if e.2 < 0 then (-1 : Int) else 1) = -1
  split
  ·exact .inr rfl
  ·exact .inl rfl
 ·have hw' : w = db e.2 \/ w = dU e.1.toNat := by simpa [pc] using hw
  rcases hw' with rfl | rfl
  ·exact BL h.x h.b
  ·exact wB (h.gk hN)
theorem CK {s m : Int} (h : s = 1 \/ s = -1) : gM s m = true := by
 rcases h with rfl | rfl <;> exact jk oM
theorem rj {N g : Nat} (h : 1 <= g /\ g <= N) : (jQ N g).length = N := by
 unfold jQ; rw [List.length_append, List.length_replicate, List.length_cons, List.length_replicate]; omega
theorem Av {N g : Nat} : ∀ y ∈ jQ N g, y = 0 \/ y = 1 := fun y hy => by
 unfold jQ at hy;rcases List.mem_append.mp hy with hy | hy
 ·exact .inl (List.eq_of_mem_replicate hy)
 ·rcases List.mem_cons.mp hy with hy | hy
  ·exact .inr hy
  ·exact .inl (List.eq_of_mem_replicate hy)
theorem mR (f : Fk n N) (h : Ek N e) : d9 ((n : Int), (pc e).1, (pc e).2, ()) = some ((jQ N e.1.toNat).map fun y => e.2 * y, (n : Int), (pc e).1, (pc e).2, ()) := by
 have hN := f.nn.l;have hg := h.g;have a0 : L2.atI [db e.2, dU e.1.toNat] 0 = some (db e.2) := rfl;have a1 : L2.atI [db e.2, dU e.1.toNat] (-1) = some (dU e.1.toNat) := rfl;have l2 : ([db e.2, dU e.1.toNat].length : Int) = 2 := rfl;have hs := (nW h hN).s;have rc : gB (db e.2, 1, ()) = some ((e.2.natAbs : Int), db e.2, 1, ()) := AI (by have := h.x; omega) h.b;have rf := f.rf e.1.toNat oM oM;have hx : (pc e).1 * (e.2.natAbs : Int) = e.2 := by
  show (if e.2 < 0 then (-1 : Int) else 1) * (e.2.natAbs : Int) = e.2;split <;> omega
 have e2 : (pc e).2 = [db e.2, dU e.1.toNat] := rfl;rw [e2];unfold d9 j2;simp only [TT.tSeq, bind_some, map_some, aq nE, l2, show ((2 : Int) == 1) = false by decide, show ((2 : Int) == 2) = true by decide, Bool.false_eq_true, if_false, if_true, a0, rc, aq (CK hs), hx, a1, rf];rw [aq (gY (by rw [rj oM]; omega)), n4 (f := fun y => e.2 * y) (fun _ _ => rfl) (fun y hy => by
  rw [aq (jk (by rcases Av y hy with rfl | rfl <;> omega))];rfl)]
 rfl
end
noncomputable def tm (e : En) : Str := db e.2 ++ Str.ofString " h(" ++ jH e.1.toNat ++ Str.ofString ")"
noncomputable def cS (x : Int) : Str := if x < 0 then Str.ofString " - " else Str.ofString " + "
noncomputable def dN (x : Int) : Str := if x < 0 then Str.ofString "-" else Str.ofString ""
noncomputable def cY : List En -> Str
 | [] => Str.ofString ""
 | e :: es => cS e.2 ++ tm e ++ cY es
noncomputable def dW : List En -> Str
 | [] => Str.ofString ""
 | e :: es => dN e.2 ++ tm e ++ cY es
theorem Gr : (Str.ofString " h(").cps.toList = [32, 104, 40] := by decide +kernel
theorem cH : (Str.ofString "h(").cps.toList = [104, 40] := by decide +kernel
theorem cC : (Str.ofString ")").cps.toList = [41] := by decide +kernel
theorem rC (e : En) : (tm e).cps.toList = (db e.2).cps.toList ++ (32 :: (dU e.1.toNat).cps.toList) := by
 unfold tm dU;simp only [aS, Gr, cH, cC, List.append_assoc, List.cons_append, List.nil_append]
theorem zN (x : Int) : (cS x).cps.toList = 32 :: ((ip (if x < 0 then -1 else 1)).cps.toList ++ [32]) := by
 unfold cS;split
 ·rw [Ae]; rfl
 ·rw [Ad]; rfl
theorem mO : ∀ (es : List En) (e : En), (body (pc e) (es.map pc)).cps.toList = (tm e).cps.toList ++ (cY es).cps.toList := by
 intro es
 induction es with
 | nil =>
  intro e;unfold body;rw [gu, rC, jO];show cA [32] [(db e.2).cps.toList, (dU e.1.toNat).cps.toList] = _ ++ (Str.ofString "").cps.toList;rw [jN, List.append_nil];rfl
 | cons e' es ih =>
  intro e;have i := ih e';unfold body at i ⊢;rw [gu, jO] at i ⊢;have h1 : ((pc e).2 ++ cz ((e' :: es).map pc)).map (fun p => p.cps.toList) = (db e.2).cps.toList :: (dU e.1.toNat).cps.toList :: (ip (pc e').1).cps.toList :: (((pc e').2 ++ cz (es.map pc)).map fun p => p.cps.toList) := rfl;rw [h1];have h2 : ((pc e').2 ++ cz (es.map pc)).map (fun p => p.cps.toList) = (db e'.2).cps.toList :: (dU e'.1.toNat).cps.toList :: ((cz (es.map pc)).map fun p => p.cps.toList) := rfl;rw [h2] at i ⊢;show (db e.2).cps.toList ++ ([32] ++ ((dU e.1.toNat).cps.toList ++ ([32] ++ ((ip (pc e').1).cps.toList ++ ([32] ++ cA [32] ((db e'.2).cps.toList :: (dU e'.1.toNat).cps.toList :: ((cz (es.map pc)).map fun p => p.cps.toList))))))) = _;rw [i];show _ = _ ++ (cS e'.2 ++ tm e' ++ cY es).cps.toList;rw [aS, aS, zN];show _ = _ ++ ((32 :: ((ip (pc e').1).cps.toList ++ [32])) ++ (tm e').cps.toList ++ (cY es).cps.toList);simp only [rC, List.append_assoc, List.cons_append, List.nil_append]
theorem AD (e : En) (es : List En) : dW (e :: es) = dA (pc e) (es.map pc) := by
 apply ext';show (dN e.2 ++ tm e ++ cY es).cps.toList = _;rw [aS, aS];unfold dA;show (dN e.2).cps.toList ++ (tm e).cps.toList ++ (cY es).cps.toList = (if (if e.2 < 0 then (-1 : Int) else 1) = 1 then _ else _ : Str).cps.toList;unfold dN;by_cases h : e.2 < 0
 ·rw [if_pos h, if_pos h, if_neg dC, aS, mO, List.append_assoc]
 ·rw [if_neg h, if_neg h, if_pos rfl, mO, jN]; rfl
theorem xF {x : Int} (h : x.natAbs < 10 ^ 40) : decide (x.natAbs.log2 < 1920) = true := by
 refine decide_eq_true ?_;by_cases h0 : x.natAbs = 0
 ·rw [h0]; decide
 ·have h1 : x.natAbs < 2 ^ 140 := Nat.lt_trans h dC
  have h2 := (Nat.log2_lt (k := 140) h0).mpr h1;omega
theorem Dl (x : Int) : (if x < 0 then -x else x) = ((x.natAbs : Nat) : Int) := by split <;> omega
theorem sS : (Str.ofString " h(").length = 3 := by decide +kernel
theorem lC : (Str.ofString ")").length = 1 := by decide +kernel
theorem qT {x : Int} (h : x.natAbs < 10 ^ 40) : (db x).length <= 40 := gx h
section
variable {N : Nat} {e : En}
theorem vD (h : Ek N e) (hN : N <= 15) : (tm e).length <= 60 := by
 have h1 := qT h.b;have h2 := (h.gk hN).tl;unfold tm;rw [aU, aU, aU, sS, lC];omega
theorem ue (h : Ek N e) (hN : N <= 15) : jR (e.1, e.2, ()) = some (tm e, e.1, e.2, ()) := by
 have hg := h.gk hN;have eg : ((e.1.toNat : Nat) : Int) = e.1 := by have := h.g; omega
 have sg := hg.sg;rw [eg] at sg;have h1 := qT h.b;have h2 := hg.tl;have lx : decide (((e.2.natAbs : Nat) : Int).natAbs.log2 < 1920) = true := by rw [Int.natAbs_natCast]; exact xF h.b
 unfold jR j0;simp only [TT.tSeq, bind_some, map_some, sg, Dl, aq lx, uV];have e1 : Str.ofString (toString ((e.2.natAbs : Nat) : Int)) = db e.2 := rfl;rw [e1];have q1 : (db e.2).length <= 100000 := by omega
 have q2 : (db e.2 ++ Str.ofString " h(").length <= 100000 := by rw [aU, sS]; omega
 have q3 : (jH e.1.toNat).length <= 100000 := by omega
 have q4 : (db e.2 ++ Str.ofString " h(" ++ jH e.1.toNat).length <= 100000 := by rw [aU, aU, sS]; omega
 have q5 : (db e.2 ++ Str.ofString " h(" ++ jH e.1.toNat ++ Str.ofString ")").length <= 100000 := by rw [aU, aU, aU, sS, lC]; omega
 simp only [aq (eK q1), aq (eK q2), aq (eK q3), aq (eK q4), aq (eK q5), bind_some, map_some];rfl
end
theorem rX (x : Int) (b : Bool) : i7 (x, b, ()) = some (if b = true then dN x else cS x, x, b, ()) := by
 unfold i7 jC dN cS;cases b <;> by_cases h : x < 0 <;> simp only [TT.tSeq, bind_some, map_some, decide_true, decide_false, Bool.false_eq_true, if_false, if_true, h]
noncomputable def uG (c : Str) (e : En) : Str := if e.2 = 0 then c else c ++ (if (c == Str.ofString "") = true then dN e.2 else cS e.2) ++ tm e
noncomputable def nz (l : List En) : List En := l.filter fun e => !(e.2 == 0)
theorem yE : ∀ (es : List En) (e : En), (cY (es ++ [e])).cps.toList = (cY es).cps.toList ++ ((cS e.2).cps.toList ++ (tm e).cps.toList) := by
 intro es
 induction es with
 | nil =>
  intro e;show (cS e.2 ++ tm e ++ Str.ofString "").cps.toList = (Str.ofString "").cps.toList ++ _;rw [aS, aS, jN]; simp
 | cons e' es ih =>
  intro e;show (cS e'.2 ++ tm e' ++ cY (es ++ [e])).cps.toList = (cS e'.2 ++ tm e' ++ cY es).cps.toList ++ _;rw [aS, aS, ih, aS, aS]; simp only [List.append_assoc]
theorem wM (e : En) (es : List En) : (dW (e :: es) == Str.ofString "") = false := i9 (by
 rw [jN];show (dN e.2 ++ tm e ++ cY es).cps.toList ≠ [];rw [aS, aS, rC];simp)
theorem yB (es : List En) (e : En) (h : e.2 ≠ 0) : uG (dW es) e = dW (es ++ [e]) := by
 unfold uG;rw [if_neg h];apply ext';cases es with
 | nil =>
  have e0 : (dW [] == Str.ofString "") = true := by decide +kernel
  rw [if_pos e0];show (Str.ofString "" ++ dN e.2 ++ tm e).cps.toList = (dN e.2 ++ tm e ++ Str.ofString "").cps.toList;rw [aS, aS, aS, aS, jN]; simp
 | cons e' es =>
  rw [if_neg (by rw [wM]; decide)];show (dN e'.2 ++ tm e' ++ cY es ++ cS e.2 ++ tm e).cps.toList = (dN e'.2 ++ tm e' ++ cY (es ++ [e])).cps.toList;simp only [aS, yE, List.append_assoc]
theorem AE : ∀ (l : List En) (es : List En), l.foldl uG (dW es) = dW (es ++ nz l) := by
 intro l
 induction l with
 | nil => intro es; simp [nz]
 | cons e l ih =>
  intro es;rw [List.foldl_cons];by_cases h : e.2 = 0
  ·have : uG (dW es) e = dW es := if_pos h
   rw [this, ih];unfold nz;rw [List.filter_cons, if_neg (by rw [h]; decide)]
  ·rw [yB es e h, ih]
   unfold nz;rw [List.filter_cons, if_pos (by simpa using h)];simp
theorem uH {N : Nat} (hN : N <= 15) : ∀ {es : List En}, (∀ e ∈ es, Ek N e) -> (cY es).length <= 70 * es.length := by
 intro es
 induction es with
 | nil => intro _; show (Str.ofString "").length <= 0; decide +kernel
 | cons e es ih =>
  intro h;have h1 := ih fun x hx => h x (List.mem_cons_of_mem _ hx)
  have h2 := vD (h e (by simp)) hN;have h3 : (cS e.2).length = 3 := by unfold cS; split <;> decide +kernel
  show (cS e.2 ++ tm e ++ cY es).length <= 70 * (es.length + 1);rw [aU, aU];omega
theorem uE {N : Nat} (hN : N <= 15) {es : List En} (h : ∀ e ∈ es, Ek N e) : (dW es).length <= 70 * es.length := by
 cases es with
 | nil => show (Str.ofString "").length <= 0; decide +kernel
 | cons e es =>
  have h1 := uH hN fun x hx => h x (List.mem_cons_of_mem _ hx)
  have h2 := vD (h e (by simp)) hN;have h3 : (dN e.2).length <= 1 := by unfold dN; split <;> decide +kernel
  show (dN e.2 ++ tm e ++ cY es).length <= 70 * (es.length + 1);rw [aU, aU];omega
theorem zJ {N : Nat} (hN : N <= 15) {e : En} (h : Ek N e) : ∀ c ∈ (tm e).cps.toList, c < 128 := fun c hc => by
 rw [rC] at hc;rcases List.mem_append.mp hc with hc | hc
 ·have := eU e.2.natAbs c hc; omega
 ·rcases List.mem_cons.mp hc with hc | hc
  ·omega
  ·exact ((h.gk hN).fc c hc).1
theorem BW (x : Int) : ∀ c ∈ (cS x).cps.toList, c < 128 := fun c hc => by
 unfold cS at hc;split at hc
 ·rw [Ae] at hc; simp at hc; omega
 ·rw [Ad] at hc; simp at hc; omega
theorem BX (x : Int) : ∀ c ∈ (dN x).cps.toList, c < 128 := fun c hc => by
 unfold dN at hc;split at hc
 ·rw [kt] at hc; simp at hc; omega
 ·rw [jN] at hc; simp at hc
theorem wP {N : Nat} (hN : N <= 15) : ∀ {es : List En}, (∀ e ∈ es, Ek N e) -> ∀ c ∈ (cY es).cps.toList, c < 128 := by
 intro es
 induction es with
 | nil => intro _ c hc; rw [show cY [] = Str.ofString "" from rfl, jN] at hc; cases hc
 | cons e es ih =>
  intro h c hc;rw [show cY (e :: es) = cS e.2 ++ tm e ++ cY es from rfl] at hc;rcases i3 hc with hc | hc
  ·rcases i3 hc with hc | hc
   ·exact BW _ c hc
   ·exact zJ hN (h e (by simp)) c hc
  ·exact ih (fun x hx => h x (List.mem_cons_of_mem _ hx)) c hc
theorem wL {N : Nat} (hN : N <= 15) {es : List En} (h : ∀ e ∈ es, Ek N e) : ∀ c ∈ (dW es).cps.toList, c < 128 := fun c hc => by
 cases es with
 | nil => rw [show dW [] = Str.ofString "" from rfl, jN] at hc; cases hc
 | cons e es =>
  rw [show dW (e :: es) = dN e.2 ++ tm e ++ cY es from rfl] at hc;rcases i3 hc with hc | hc
  ·rcases i3 hc with hc | hc
   ·exact BX _ c hc
   ·exact zJ hN (h e (by simp)) c hc
  ·exact wP hN (fun x hx => h x (List.mem_cons_of_mem _ hx)) c hc
structure Rk (N : Nat) (row : List Int) : Prop where
 l : row.length = N
 b : ∀ x ∈ row, x.natAbs < 10 ^ 40
theorem vd : ∀ {row : List Int} {m k : Nat} {e : En}, (bC m row)[k]? = some e -> row[k]? = some e.2 /\ e.1 = ((m + k : Nat) : Int) := by
 intro row
 induction row with
 | nil => intro m k e h; simp [bC] at h
 | cons x row ih =>
  intro m k e h;cases k with
  | zero => simp [bC] at h; subst h; exact ⟨rfl, rfl⟩
  | succ k =>
   have := ih (m := m + 1) (k := k) (e := e) (by simpa [bC] using h)
   exact ⟨by simpa using this.1, by rw [this.2]; congr 1; omega⟩
theorem qZ {N : Nat} {row : List Int} (r : Rk N row) {k : Nat} {e : En} (h : (bC 1 row)[k]? = some e) (hx : e.2 ≠ 0) : Ek N e := by
 obtain ⟨h1, h2⟩ := vd h;have hk := (List.getElem?_eq_some_iff.mp h1).1;rw [r.l] at hk;exact ⟨by rw [h2]; omega, hx, r.b _ (List.mem_of_getElem? h1)⟩
theorem jG {N : Nat} {row : List Int} (r : Rk N row) : ∀ e ∈ nz (bC 1 row), Ek N e := fun e he => by
 obtain ⟨h1, h2⟩ := List.mem_filter.mp he;obtain ⟨k, hk⟩ := List.getElem?_of_mem h1;exact qZ r hk (by simpa using h2)
theorem v3 {N : Nat} {row : List Int} (r : Rk N row) (k : Nat) : ∀ e ∈ nz ((bC 1 row).take k), Ek N e := fun e he => by
 obtain ⟨h1, h2⟩ := List.mem_filter.mp he;obtain ⟨j, hj⟩ := List.getElem?_of_mem (List.mem_of_mem_take h1);exact qZ r hj (by simpa using h2)
theorem jj (l : List En) : (nz l).length <= l.length := List.length_filter_le _ _
noncomputable def shown (row : List Int) : Str := if (nz (bC 1 row)) = [] then Str.ofString "0" else dW (nz (bC 1 row))
theorem kf {S α ρ γ γ' : Type} {put : S -> α -> S} {b : S -> Option (TR S ρ)} {xs : List α} {s : S} {k : TR S ρ -> Option γ'} {k2 : γ' -> Option γ} {P : S -> Prop} (Q : Option γ -> Prop) (h : ∃ s', cD put b xs s = some (.nx s') /\ P s') (hk : ∀ s', P s' -> Q ((k (.nx s')).bind k2)) : Q (((cD put b xs s).bind k).bind k2) := by
 obtain ⟨s', e, p⟩ := h;rw [e]; exact hk s' p
theorem p8 {α : Type} {xs : List α} {k : Nat} {x : α} (h : xs[k]? = some x) : xs.take (k + 1) = xs.take k ++ [x] := by
 rw [List.take_succ, h]; rfl
theorem y8 : ∀ d ∈ (Str.ofString "").cps.toList, d < 1114112 := fun d hd => by rw [jN] at hd; cases hd
theorem vJ {N : Nat} (hN : N <= 15) {row : List Int} (r : Rk N row) (n : Int) : kA (n, row, ()) = some (shown row, n, row, ()) := by
 unfold kA kS;simp only [TT.tSeq, bind_some, map_some];refine kf (S := bj) (P := fun s => s.xn = n /\ s.xrow = row /\ s.xshown = dW (nz (bC 1 row))) (fun o => o = some (shown row, n, row, ())) ?_ ?_
 ·refine jl (S := bj) (fun k s => s.xn = n /\ s.xrow = row /\ s.xshown = dW (nz ((bC 1 row).take k))) ⟨rfl, rfl, rfl⟩ ?_ (fun s q => ⟨q.1, q.2.1, by rw [q.2.2, List.take_length]⟩)
  rintro k ⟨x1, x2, x3, x4, x5⟩ e he ⟨f1, f2, f3⟩;dsimp only at f1 f2 f3;subst f1; subst f2; subst f3;have hk := (List.getElem?_eq_some_iff.mp he).1;rw [fM, r.l] at hk;have key := AE [e] (nz ((bC 1 x2).take k));rw [List.foldl_cons, List.foldl_nil] at key;have tk : nz ((bC 1 x2).take (k + 1)) = nz ((bC 1 x2).take k) ++ nz [e] := by rw [p8 he]; exact List.filter_append _ _
  have hek := v3 r k;have hl : (dW (nz ((bC 1 x2).take k))).length <= 1050 := by
   have h1 := uE hN hek;have h2 := jj ((bC 1 x2).take k);rw [List.length_take] at h2;omega
  have hok := wL hN hek;simp only [aq nE, map_some, bind_some];by_cases h0 : e.2 = 0
  ·have b0 : (!(e.2 == 0)) = false := by rw [h0]; rfl
   simp only [b0, Bool.false_eq_true, if_false];refine ⟨_, rfl, rfl, rfl, ?_⟩;show dW (nz ((bC 1 x2).take k)) = dW (nz ((bC 1 x2).take (k + 1)));rw [tk, show nz [e] = [] from by unfold nz; rw [List.filter_cons, if_neg (by rw [b0]; decide)]; rfl, List.append_nil]
  ·have b0 : (!(e.2 == 0)) = true := by simpa using h0
   have ek := qZ r he h0;have o1 : (Py.ok TT.rS (dW (nz ((bC 1 x2).take k))) && Py.ok TT.rS (Str.ofString "") && decide (min (Py.k TT.rS) (Py.k TT.rS) <= 50)) = true := gp (fun c hc => by have := hok c hc; omega) y8;have l0 : (if (dW (nz ((bC 1 x2).take k)) == Str.ofString "") = true then dN e.2 else cS e.2).length <= 3 := by
    split
    ·unfold dN; split <;> decide +kernel
    ·unfold cS; split <;> decide +kernel
   have l1 := vD ek hN;simp only [b0, if_true, aq o1, map_some, bind_some, rX];rw [aq (eK oM)];simp only [map_some, bind_some, ue ek hN];rw [aq (eK (by rw [aU]; omega))];simp only [map_some];refine ⟨_, rfl, rfl, rfl, ?_⟩;rw [tk, <- key];show _ = uG _ e;unfold uG;rw [if_neg h0]
 ·rintro ⟨x1, x2, x3, x4, x5⟩ ⟨f1, f2, f3⟩
  dsimp only at f1 f2 f3;subst f1; subst f2; subst f3;have hok := wL hN (jG r);have o1 : (Py.ok TT.rS (dW (nz (bC 1 x2))) && Py.ok TT.rS (Str.ofString "") && decide (min (Py.k TT.rS) (Py.k TT.rS) <= 50)) = true := gp (fun c hc => by have := hok c hc; omega) y8;simp only [aq o1, map_some, bind_some];unfold shown;rcases hz : nz (bC 1 x2) with _ | ⟨e, es⟩
  ·have : (!(dW [] == Str.ofString "")) = false := by decide +kernel
   rw [show (if ([] : List En) = [] then Str.ofString "0" else dW []) = Str.ofString "0" from if_pos rfl];simp only [this, Bool.false_eq_true, if_false, map_some, bind_some]
  ·rw [show (if (e :: es) = [] then Str.ofString "0" else dW (e :: es)) = dW (e :: es) from if_neg (by simp)]
   simp only [wM, Bool.not_false, if_true, map_some, bind_some]
noncomputable def i5 (e : En) : Str := cS e.2 ++ db e.2 ++ Str.ofString " h(" ++ jH e.1.toNat ++ Str.ofString ")"
theorem zH (e : En) : (i5 e).cps.toList = (cS e.2).cps.toList ++ (tm e).cps.toList := by
 unfold i5 tm;simp only [aS, List.append_assoc]
theorem zb : ∀ es : List En, (Txt.join (Str.ofString "") (es.map i5)).cps.toList = (cY es).cps.toList := by
 intro es;rw [gu, jN]
 induction es with
 | nil => rw [show cY [] = Str.ofString "" from rfl, jN]; rfl
 | cons e es ih =>
  have h1 : (cY (e :: es)).cps.toList = (i5 e).cps.toList ++ (cY es).cps.toList := by
   rw [show cY (e :: es) = cS e.2 ++ tm e ++ cY es from rfl, aS, aS, zH]
  rw [h1, <- ih];cases es with
  | nil =>
   show (i5 e).cps.toList = (i5 e).cps.toList ++ [];rw [List.append_nil]
  | cons e' es => rfl
theorem Dc : ∀ {row : List Int} {m k : Nat} {x : Int}, row[k]? = some x -> (bC m row)[k]? = some (((m + k : Nat) : Int), x) := by
 intro row
 induction row with
 | nil => intro m k x h; simp at h
 | cons y row ih =>
  intro m k x h;cases k with
  | zero => simp at h; subst h; rfl
  | succ k =>
   have := ih (m := m + 1) (k := k) (x := x) (by simpa using h)
   rw [show m + 1 + k = m + (k + 1) by omega] at this;simpa [bC] using this
theorem vL (x : Int) : (cS x).length = 3 := by unfold cS; split <;> decide +kernel
theorem Fl : gZ [Str.ofString " + ", Str.ofString " - "].length = true := gY (by simp)
theorem EG (x : Int) : L2.atI [Str.ofString " + ", Str.ofString " - "] (if decide (x < 0) = true then 1 else 0) = some (cS x) := by
 unfold cS;by_cases h : x < 0
 ·rw [decide_eq_true h, if_pos h]; rfl
 ·rw [decide_eq_false h, if_neg h]; rfl
theorem Dy {N : Nat} (hN : N <= 15) {e : En} (h : Ek N e) : (i5 e).length <= 70 := by
 have := vD h hN
 have h2 : (i5 e).length = (cS e.2).length + (tm e).length := by rw [bc, zH, List.length_append, <- bc, <- bc]
 rw [h2, vL];omega
theorem uq {N : Nat} (hN : N <= 15) {row : List Int} (r : Rk N row) : nk (row, ()) = some (shown row, row, ()) := by
 have h0 : gZ ([] : List Str).length = true := gY (by simp);unfold nk nO;simp only [TT.tSeq, bind_some, map_some, aq h0];refine kf (S := bI) (P := fun s => s.yrow_here = row /\ s.ywords = (nz (bC 1 row)).map i5) (fun o => o = some (shown row, row, ())) ?_ ?_
 ·refine jl (S := bI) (fun k s => s.yrow_here = row /\ s.ywords = (nz ((bC 1 row).take k)).map i5) ⟨rfl, rfl⟩ ?_ (fun s q => ⟨q.1, by rw [q.2, fM, <- fM row 1, List.take_length]⟩)
  rintro k ⟨x1, x2, x3, x4, x5, x6⟩ q hq ⟨f1, f2⟩;dsimp only at f1 f2;subst f1; subst f2;obtain ⟨g1, g2⟩ := vd hq;have hk := (List.getElem?_eq_some_iff.mp g1).1;rw [r.l] at hk;have he : (bC 1 x1)[k]? = some (((1 + k : Nat) : Int), q.2) := Dc g1;have tk : nz ((bC 1 x1).take (k + 1)) = nz ((bC 1 x1).take k) ++ nz [(((1 + k : Nat) : Int), q.2)] := by rw [p8 he]; exact List.filter_append _ _
  have hwl : ((nz ((bC 1 x1).take k)).map i5).length <= 15 := by
   rw [List.length_map];have h2 := jj ((bC 1 x1).take k);rw [List.length_take] at h2;omega
  simp only [aq nE, map_some, bind_some];by_cases h0 : q.2 = 0
  ·have b0 : (!(q.2 == 0)) = false := by rw [h0]; rfl
   simp only [b0, Bool.false_eq_true, if_false];refine ⟨_, rfl, rfl, ?_⟩;show (nz ((bC 1 x1).take k)).map i5 = _;rw [tk, show nz [(((1 + k : Nat) : Int), q.2)] = [] from by unfold nz; rw [List.filter_cons, if_neg (by show ¬ ((!(q.2 == 0)) = true); rw [b0]; decide)]; rfl, List.append_nil]
  ·have b0 : (!(q.2 == 0)) = true := by simpa using h0
   have ek : Ek N (((1 + k : Nat) : Int), q.2) := qZ r he h0;have hg := ek.gk hN;have hll := hg.ll;rw [show ((((((1 + k : Nat) : Int), q.2) : En).1.toNat : Nat) : Int) = q.1 + 1 by show (((1 + k : Nat) : Int).toNat : Int) = _; rw [g2]; omega] at hll;have l1 := qT ek.b;have l2 := hg.tl;have lx : decide (((q.2.natAbs : Nat) : Int).natAbs.log2 < 1920) = true := by rw [Int.natAbs_natCast]; exact xF ek.b
   have sl := vL q.2;simp only [b0, if_true, aq Fl, bind_some, map_some, EG, Dl, aq lx];have e1 : Str.ofString (toString ((q.2.natAbs : Nat) : Int)) = db q.2 := rfl;rw [e1];dsimp only at l1 l2;rw [aq (eK (show (cS q.2).length + (db q.2).length <= 100000 by omega))];simp only [bind_some];rw [aq (eK (show (cS q.2 ++ db q.2).length + (Str.ofString " h(").length <= 100000 by rw [aU, sS]; omega))]
   simp only [map_some, bind_some, hll];rw [aq (eK (show (cS q.2 ++ db q.2 ++ Str.ofString " h(").length + (jH ((1 + k : Nat) : Int).toNat).length <= 100000 by rw [aU, aU, sS]; omega))]
   simp only [map_some, bind_some];rw [aq (eK (show (cS q.2 ++ db q.2 ++ Str.ofString " h(" ++ jH ((1 + k : Nat) : Int).toNat).length + (Str.ofString ")").length <= 100000 by rw [aU, aU, aU, sS, lC]; omega))];simp only [map_some, bind_some];rw [aq (sP oM)];refine ⟨_, rfl, rfl, ?_⟩;show _ = (nz ((bC 1 x1).take (k + 1))).map i5;rw [tk, show nz [(((1 + k : Nat) : Int), q.2)] = [(((1 + k : Nat) : Int), q.2)] from by unfold nz; rw [List.filter_cons, if_pos (by exact b0)]; rfl, List.map_append];rfl
 ·rintro ⟨x1, x2, x3, x4, x5, x6⟩ ⟨f1, f2⟩
  dsimp only at f1 f2;subst f1; subst f2;have hek := jG r;have hlen : (nz (bC 1 x1)).length <= 15 := by have := jj (bC 1 x1); rw [fM, r.l] at this; omega
  have jc : oa (Str.ofString "") ((nz (bC 1 x1)).map i5) = true := zY (b := 70) (n := 15) (fun w hw => by
   obtain ⟨e, he, rfl⟩ := List.mem_map.mp hw;exact Dy hN (hek e he)) (by rw [List.length_map]; exact hlen) (by rw [show (Str.ofString "").length = 0 by decide +kernel]; decide)
  have hc := zb (nz (bC 1 x1));generalize hT : Txt.join (Str.ofString "") ((nz (bC 1 x1)).map i5) = T at hc;have Tok : ∀ c ∈ T.cps.toList, c < 128 := by rw [hc]; exact wP hN hek
  have Tl : T.length <= 1050 := by
   have := uH hN hek
   rw [bc, <- hc, <- bc] at this;omega
  have o1 : (Py.ok TT.rS T && Py.ok TT.rS (Str.ofString "") && decide (min (Py.k TT.rS) (Py.k TT.rS) <= 50)) = true := gp (fun c hc => by have := Tok c hc; omega) y8;simp only [aq jc, hT, map_some, bind_some, aq o1];unfold shown;rcases hz : nz (bC 1 x1) with _ | ⟨e, es⟩
  ·rw [hz] at hc
   have : T = Str.ofString "" := ext' hc;subst this;simp only [beq_self_eq_true, if_true, map_some, bind_some]
  ·rw [hz] at hc
   rw [show cY (e :: es) = cS e.2 ++ tm e ++ cY es from rfl, aS, aS] at hc;have hne : (T == Str.ofString "") = false := i9 (by rw [hc, jN, zN]; simp);rw [show (if (e :: es) = [] then Str.ofString "0" else dW (e :: es)) = dW (e :: es) from if_neg (by simp)];simp only [hne, Bool.false_eq_true, if_false, map_some, bind_some];have at1 : ∀ s : Nat, (cS e.2).cps.toList = [32, s, 32] -> qq T 1 = some ⟨#[s]⟩ := fun s hs => by
    unfold qq;rw [if_pos (uC oM), hc, hs];show (L2.atI (32 :: s :: 32 :: ((tm e).cps.toList ++ (cY es).cps.toList)) ((1 : Nat) : Int)).map _ = _;rw [L2.atI_nat (show (32 :: s :: 32 :: ((tm e).cps.toList ++ (cY es).cps.toList))[1]? = some s from rfl)];rfl
   have hT3 : 3 <= T.length := by
    rw [bc, hc, List.length_append, List.length_append, <- bc, vL]; omega
   have sl3 : (Txt.slice T (some 3) none).cps.toList = (tm e).cps.toList ++ (cY es).cps.toList := by
    rw [show (some (3 : Int)) = some ((3 : Nat) : Int) from rfl, kF hT3, hc];unfold cS;split
    ·rw [Ae]; rfl
    ·rw [Ad]; rfl
   have sll : (Txt.slice T (some 3) none).length <= 1050 := by
    have := congrArg List.length sl3
    rw [<- bc] at this;have h2 := congrArg List.length hc;rw [<- bc, List.length_append, List.length_append] at h2;rw [List.length_append] at this;omega
   by_cases hx : e.2 < 0
   ·have hs : (cS e.2).cps.toList = [32, 45, 32] := by unfold cS; rw [if_pos hx, Ae]
    have eq : ((⟨#[45]⟩ : Str) == Str.ofString "-") = true := by decide +kernel
    have o2 : (Py.ok TT.rS (⟨#[45]⟩ : Str) && Py.ok TT.rS (Str.ofString "-") && decide (min (Py.k TT.rS) (Py.k TT.rS) <= 50)) = true := by decide +kernel
    simp only [at1 45 hs, map_some, bind_some, aq o2, eq, if_true];rw [aq (eK (show T.length <= 100000 by omega))];simp only [map_some, bind_some];rw [aq (eK (show (Str.ofString "-").length + (Txt.slice T (some 3) none).length <= 100000 by rw [show (Str.ofString "-").length = 1 by decide +kernel]; omega))];simp only [map_some, bind_some];congr 2;apply ext';rw [show dW (e :: es) = dN e.2 ++ tm e ++ cY es from rfl, aS, aS, aS, sl3, show dN e.2 = Str.ofString "-" from if_pos hx, List.append_assoc]
   ·have hs : (cS e.2).cps.toList = [32, 43, 32] := by unfold cS; rw [if_neg hx, Ad]
    have eq : ((⟨#[43]⟩ : Str) == Str.ofString "-") = false := by decide +kernel
    have o2 : (Py.ok TT.rS (⟨#[43]⟩ : Str) && Py.ok TT.rS (Str.ofString "-") && decide (min (Py.k TT.rS) (Py.k TT.rS) <= 50)) = true := by decide +kernel
    simp only [at1 43 hs, map_some, bind_some, aq o2, eq, Bool.false_eq_true, if_false];rw [aq (eK (show T.length <= 100000 by omega))];simp only [map_some, bind_some];congr 2;apply ext';rw [show dW (e :: es) = dN e.2 ++ tm e ++ cY es from rfl, aS, aS, sl3, show dN e.2 = Str.ofString "" from if_neg hx, jN];rfl
end LW
namespace LW
open PySem L2 DD TT
theorem Bg (c k : Int) : ∃ m, nr (c, k, ()) = some (m, c, k, ()) /\ 0 <= m /\ m < 2147483587 := by
 have d4 : decide ((0 : Int) < 2147483647) = true := by decide
 have d5 : decide ((0 : Int) < 2147483629) = true := by decide
 have d3 : decide ((0 : Int) < 2147483587) = true := by decide
 have m1 : ∀ q : Int, gM q 48271 = true := fun q => jk oM
 have m2 : ∀ q : Int, gM q 69621 = true := fun q => jk oM
 have m3 : ∀ q : Int, gM (q % 2147483647) (q % 2147483647) = true := fun q => jk oM
 have m4 : ∀ q : Int, gM (q % 2147483629) (q % 2147483629) = true := fun q => jk oM
 unfold nr nQ;simp only [TT.tSeq, bind_some, map_some, aq d4, aq d5, aq d3, aq (m1 _), aq (m2 _), aq (m3 _), aq (m4 _)];exact ⟨_, rfl, Int.emod_nonneg _ dC, Int.emod_lt_of_pos _ dC⟩
theorem EQ : decide ((0 : Int) <= 18 /\ (18 : Int) <= 1000000 /\ Int.natAbs 10 < 2 ^ 64) = true := by decide
theorem EK {a b c : Int} : gZ ([a, b, c] : List Int).length = true := gY (by simp)
theorem xj (r : List Int) (k : Nat) : ∃ p, pj (r, (k : Int), ()) = some (p, r, (k : Int), ()) /\ p.length = 3 := by
 have m1 : ∀ (q : Int) (b : Bool), gM q (if b = true then 1 else 0) = true := fun q b => jk (by cases b <;> simp)
 have m2 : gM 97 (k : Int) = true := jk oM;unfold pj p5;simp only [TT.tSeq, bind_some, map_some];cases hd : decide ((k : Int) < (r.length : Int))
 ·simp only [Bool.false_eq_true, if_false, bind_some, map_some, aq EQ, aq (m1 _ _), aq m2, aq EK]
  exact ⟨_, rfl, rfl⟩
 ·have hk : k < r.length := by simpa using hd
  simp only [if_true, bind_some, map_some, Dj hk, aq EQ, aq (m1 _ _), aq m2, aq EK];exact ⟨_, rfl, rfl⟩
theorem BQ {a b : Int} : gZ ([a, b] : List Int).length = true := gY (by simp)
theorem Ev {a : Int} {ys : List Int} : xS (fun a_1 => Py.ok TT.rI a_1 && Py.ok TT.rI a && decide (min (Py.k TT.rI) (Py.k TT.rI) <= 50)) (fun a_1 => a_1 == a) ys = some (ys.any fun z => z == a) := by
 unfold xS;rw [if_pos (List.all_eq_true.mpr fun _ _ => Gi)]
theorem i6 {p : List Int} (hp : p.length = 3) {m : Int} (hm : 1 <= m /\ m <= 10000000000) : ∃ d p', pf (p, m, ()) = some (d, p', m, ()) /\ p'.length = 3 /\ 0 <= d /\ d < m := by
 match p, hp with
 | [a, b, c], _ =>
  have a0 : atI [a, b, c] 0 = some a := rfl;have a2 : atI [a, b, c] 2 = some c := rfl;have b1 : atI [a, b, c + 1] 1 = some b := rfl;have b2 : atI [a, b, c + 1] 2 = some (c + 1) := rfl;have i2 : ixN 3 2 = some 2 := rfl;have i0 : ixN 3 0 = some 0 := rfl;have l3 : [a, b, c].length = 3 := rfl;have e3 : [a, b, c].set 2 (c + 1) = [a, b, c + 1] := rfl;have e4 : ∀ x, [a, b, c].set 0 x = [x, b, c] := fun _ => rfl
  have dm : decide (0 < m) = true := decide_eq_true oM;have fd : ∀ x, wm x m = true := fun x => FI (by
   refine decide_eq_true ⟨by omega, ?_⟩;have h1 : m.natAbs < 2 ^ 64 := by omega
   have h2 := (Nat.log2_lt (n := m.natAbs) (k := 64) oM).mpr h1;omega)
  obtain ⟨q, hq, _, _⟩ := Bg b (c + 1);unfold pf pZ;simp only [TT.tSeq, bind_some, map_some, a0, aq BQ, Ev];cases ([0, -1] : List Int).any fun z => z == a
  ·simp only [Bool.false_eq_true, if_false, bind_some, map_some, a0, aq dm, aq (fd _), l3, i0, e4]
   exact ⟨_, _, rfl, rfl, Int.emod_nonneg _ oM, Int.emod_lt_of_pos _ oM⟩
  ·simp only [if_true, bind_some, map_some, a2, l3, i2, e3, b1, b2, hq, aq dm]
   exact ⟨_, _, rfl, rfl, Int.emod_nonneg _ oM, Int.emod_lt_of_pos _ oM⟩
end LW
namespace LW
open PySem L2 DD TT TX
noncomputable def E1 (o : Option (Int × List Int × Unit)) : Prop := ∃ v p', o = some (v, p', ()) /\ p'.length = 3 /\ v.natAbs < 10 ^ 40
theorem EZ {x : Int} (h : -1000 <= x /\ x <= 1001) : x.natAbs < 10 ^ 40 := Nat.lt_of_le_of_lt (show x.natAbs <= 1001 by omega) dC
theorem Gh : decide ((0 : Int) <= 10 /\ (10 : Int) <= 1000000 /\ Int.natAbs 10 < 2 ^ 64) = true := by decide
theorem Dd : (10 : Int) ^ Int.toNat 10 = 10000000000 := by decide +kernel
theorem r4 : iE 4 = true := wQ oM oM
theorem yZ {p : List Int} (hp : p.length = 3) : E1 (io (p, ())) := by
 obtain ⟨d, p1, e1, l1, h0, h1⟩ := i6 hp (m := 4) oM;obtain ⟨o, ho⟩ : ∃ o, o = io (p, ()) := ⟨_, rfl⟩;rw [<- ho];unfold io mo at ho;simp only [TT.tSeq, map_some] at ho
 (repeat rw [bind_some] at ho)
 dsimp only at ho;rw [e1, map_some, map_some] at ho
 (repeat rw [bind_some] at ho)
 dsimp only at ho
 (repeat rw [bind_some] at ho)
 dsimp only at ho;rw [aq nE, map_some, bind_some] at ho;dsimp only at ho;cases hq : (d == 0)
 ·rw [hq] at ho
  simp only [Bool.false_eq_true, if_false] at ho;rw [bind_some] at ho;dsimp only at ho
  (repeat rw [bind_some] at ho)
  dsimp only at ho;rw [aq nE, map_some, bind_some] at ho;dsimp only at ho;cases hq1 : (d == 1)
  ·obtain ⟨d2, p2, e2, l2, _, _⟩ := i6 l1 (m := 9) oM
   simp only [hq1, Bool.false_eq_true, if_false, bind_some, map_some, e2] at ho;exact ⟨_, _, ho, l2, EZ oM⟩
  ·obtain ⟨d2, p2, e2, l2, _, _⟩ := i6 l1 (m := 2001) oM
   simp only [hq1, if_true, bind_some, map_some, e2] at ho;exact ⟨_, _, ho, l2, EZ oM⟩
 ·rw [hq] at ho
  simp only [if_true] at ho;rw [bind_some] at ho;dsimp only at ho;rw [bind_some] at ho;dsimp only at ho;rw [aq r4, bind_some] at ho;dsimp only at ho;rw [Option.bind_assoc, Option.bind_assoc] at ho;rw [ho];refine v6 (S := bM) (P := fun s => s.ypile_here.length = 3 /\ 0 <= s.ynumber_here /\ s.ynumber_here < (10000000000 : Int) ^ 4) E1 ?_ fun s' h => ?_
  ·refine jl (S := bM) (fun k s => s.ypile_here.length = 3 /\ 0 <= s.ynumber_here /\ s.ynumber_here < (10000000000 : Int) ^ k) ⟨l1, (by decide : (0 : Int) <= 0), (by decide : (0 : Int) < (10000000000 : Int) ^ 0)⟩ ?_ (fun _ h => h)
   rintro k ⟨p2, w, n0, k0⟩ x hx ⟨hl, hn0, hn1⟩;dsimp only at hl hn0 hn1;have mm : gM n0 10000000000 = true := jk oM;obtain ⟨d2, p3, e2, l2, hd0, hd1⟩ := i6 hl (m := 10000000000) oM;simp only [bind_some, map_some, aq Gh, Dd, aq mm, e2];refine ⟨_, rfl, l2, ?_, ?_⟩
   ·show 0 <= n0 * 10000000000 + d2
    omega
   ·show n0 * 10000000000 + d2 < (10000000000 : Int) ^ (k + 1)
    rw [Int.pow_succ];omega
  ·obtain ⟨p2, w, n0, k0⟩ := s'
   obtain ⟨h, hn0, hn1⟩ := h;dsimp only at h hn0 hn1;have hb : n0.natAbs < 10 ^ 40 := by
    have e : (10000000000 : Int) ^ 4 = ((10 ^ 40 : Nat) : Int) := by decide
    rw [e] at hn1;omega
   obtain ⟨d2, p3, e2, l2, g0, g1⟩ := i6 h (m := 2) oM;have hd : d2 = 0 \/ d2 = 1 := by omega
   dsimp only;rw [bind_some];dsimp only;rw [bind_some, map_some, bind_some];dsimp only;rw [aq BQ, bind_some];dsimp only;rw [bind_some, bind_some];dsimp only;rw [e2, map_some, bind_some];dsimp only;rcases hd with rfl | rfl
   ·exact ⟨_, _, rfl, l2, hb⟩
   ·exact ⟨_, _, rfl, l2, by rw [Int.natAbs_neg]; exact hb⟩
theorem sL {p : List Int} (hp : p.length = 3) : ∃ v p', io (p, ()) = some (v, p', ()) /\ p'.length = 3 /\ v.natAbs < 10 ^ 40 := yZ hp
noncomputable def zO (N : Nat) (e : En) : List Int := (jQ N e.1.toNat).map fun y => e.2 * y
theorem zC {a b c d : List Int} (h : a.length = c.length) : gw (a ++ b) (c ++ d) = gw a c ++ gw b d := by
 unfold gw; rw [List.zip_append h, List.map_append]
theorem yo (x : Int) : ∀ a : List Int, gw a (List.replicate a.length (x * 0)) = a := by
 intro a
 induction a with
 | nil => rfl
 | cons y a ih =>
  rw [List.length_cons, List.replicate_succ];show (y + x * 0) :: gw a (List.replicate a.length (x * 0)) = y :: a;rw [ih, Int.mul_zero, Int.add_zero]
theorem zA {pre : List Int} {k : Nat} {x : Int} {N : Nat} (hN : N = pre.length + 1 + k) : gw (pre ++ 0 :: List.replicate k 0) (zO N (((pre.length + 1 : Nat) : Int), x)) = pre ++ x :: List.replicate k 0 := by
 have e : zO N (((pre.length + 1 : Nat) : Int), x) = List.replicate pre.length (x * 0) ++ (x * 1) :: List.replicate k (x * 0) := by
  unfold zO jQ;show ((List.replicate (((pre.length + 1 : Nat) : Int).toNat - 1) (0 : Int) ++ 1 :: List.replicate (N - ((pre.length + 1 : Nat) : Int).toNat) 0).map fun y => x * y) = _;rw [Int.toNat_natCast, Nat.add_sub_cancel, show N - (pre.length + 1) = k by omega, List.map_append, List.map_cons, List.map_replicate, List.map_replicate]
 rw [e, zC (by simp), yo];congr 1;show (0 + x * 1) :: gw (List.replicate k 0) (List.replicate k (x * 0)) = _
 have := yo x (List.replicate k 0)
 rw [List.length_replicate] at this;rw [this, Int.mul_one, Int.zero_add]
theorem Az : ∀ (xs pre : List Int) {N : Nat}, N = pre.length + xs.length -> (nz (bC (pre.length + 1) xs)).foldl (fun c e => gw c (zO N e)) (pre ++ List.replicate xs.length 0) = pre ++ xs := by
 intro xs
 induction xs with
 | nil => intro pre N _; simp [bC, nz]
 | cons x xs ih =>
  intro pre N hN;rw [List.length_cons] at hN;have i := ih (pre ++ [x]) (N := N) (by rw [List.length_append, List.length_singleton]; omega);rw [List.length_append, List.length_singleton] at i;have en : bC (pre.length + 1) (x :: xs) = (((pre.length + 1 : Nat) : Int), x) :: bC (pre.length + 1 + 1) xs := rfl;rw [en, List.length_cons, List.replicate_succ];by_cases h0 : x = 0
  ·subst h0
   have : nz ((((pre.length + 1 : Nat) : Int), (0 : Int)) :: bC (pre.length + 1 + 1) xs) = nz (bC (pre.length + 1 + 1) xs) := by
    unfold nz; rw [List.filter_cons, if_neg (by show ¬ ((!((0 : Int) == 0)) = true); decide)]
   rw [this];simpa using i
  ·have : nz ((((pre.length + 1 : Nat) : Int), x) :: bC (pre.length + 1 + 1) xs) = (((pre.length + 1 : Nat) : Int), x) :: nz (bC (pre.length + 1 + 1) xs) := by
    unfold nz; rw [List.filter_cons, if_pos (by show (!(x == 0)) = true; simpa using h0)]
   rw [this, List.foldl_cons, zA oM];simpa using i
theorem zo {α β : Type} {f g : β -> α -> β} : ∀ {l : List α} {c : β}, (∀ c x, x ∈ l -> f c x = g c x) -> l.foldl f c = l.foldl g c := by
 intro l
 induction l with
 | nil => intro c _; rfl
 | cons x l ih => intro c h; rw [List.foldl_cons, List.foldl_cons, h c x (by simp)]; exact ih fun c y hy => h c y (by simp [hy])
theorem wS {n N : Nat} (f : Fk n N) {row : List Int} (r : Rk N row) : fE ((n : Int), shown row, ()) = some (row, (n : Int), shown row, ()) := by
 have hN := f.nn.l;have hek := jG r;have hlen : (nz (bC 1 row)).length <= 15 := by have := jj (bC 1 row); rw [fM, r.l] at this; omega
 have sm := Az row [] (N := N) (by simp [r.l]);simp only [List.nil_append, List.length_nil, Nat.zero_add] at sm;rw [r.l] at sm;unfold shown;rcases hz : nz (bC 1 row) with _ | ⟨e, es⟩
 ·rw [hz] at sm
  rw [if_pos rfl, vM f.nn];rw [List.foldl_nil] at sm;rw [sm]
 ·rw [hz] at sm hek hlen
  rw [if_neg (by simp), AD];have hp := nW (hek e (by simp)) hN;have hps : ∀ p ∈ es.map pc, Pk p := fun p hp => by
   obtain ⟨e', he', rfl⟩ := List.mem_map.mp hp;exact nW (hek e' (by simp [he'])) hN
  have ee := hek e (by simp);obtain ⟨c, rr, hc, hc1⟩ := kK (m := e.2.natAbs) (by have := ee.x; omega);have hbd : (body (pc e) (es.map pc)).cps.toList = c :: (rr ++ (32 :: (dU e.1.toNat).cps.toList) ++ (cY es).cps.toList) := by
   rw [mO, rC, show (db e.2).cps.toList = c :: rr from hc]; rfl
  have h48 : (dA (pc e) (es.map pc)).cps.toList ≠ [48] := fun h => by
   have hm : 32 ∈ (dA (pc e) (es.map pc)).cps.toList := by
    unfold dA;split
    ·rw [hbd]; simp
    ·rw [aS, hbd]; simp
   rw [h] at hm;simp at hm
  rw [DO f.nn (R := fun q => match d9 ((n : Int), q.1, q.2, ()) with | some x => x.1 | none => []) hp hps (by rw [List.length_map]; simp only [List.length_cons] at hlen; omega) ⟨c, _, hbd, by omega⟩ h48 (fun q hq => by
   rw [<- List.map_cons] at hq;obtain ⟨e', he', rfl⟩ := List.mem_map.mp hq;have e2 := hek e' he';have rt := mR f e2;refine ⟨by rw [rt], ?_⟩;show (match d9 ((n : Int), (pc e').1, (pc e').2, ()) with | some x => x.1 | none => []).length = N;rw [rt];show ((jQ N e'.1.toNat).map _).length = N;rw [List.length_map, rj (by have := e2.g; omega)])]
  rw [<- List.map_cons, List.foldl_map];have : (e :: es).foldl (fun c q => gw c (match d9 ((n : Int), (pc q).1, (pc q).2, ()) with | some x => x.1 | none => [])) (List.replicate N 0) = row := by
   rw [<- sm];refine zo fun c q hq => ?_
   rw [mR f (hek q hq)];rfl
  rw [this]
noncomputable def Bd {S ρ : Type} (o : Option (TR S ρ)) (P : S -> Prop) : Prop := ∃ s1, o = some (.nx s1) /\ P s1
theorem Bd.seqE {S ρ : Type} {f g : S -> Option (TR S ρ)} {s s1 : S} {P : S -> Prop} (e : f s = some (.nx s1)) (h2 : Bd (g s1) P) : Bd (TT.tSeq f g s) P := by
 unfold TT.tSeq;rw [e]; exact h2
theorem FC : jt "list" "list" = some true := by decide +kernel
theorem FB : jt "int" "bool" = some false := by decide +kernel
theorem FA : jt "int" "int" = some true := by decide +kernel
theorem Fy : jt "str" "str" = some true := by decide +kernel
theorem Fx : jt "tuple" "tuple" = some true := by decide +kernel
theorem yF {n k : Int} {j : Nat} (h : (rng 0 n)[j]? = some k) : k = (j : Int) /\ (j : Int) < n := by
 unfold rng at h;rw [List.getElem?_map] at h;rcases h2 : (List.range (n - 0).toNat)[j]? with _ | i
 ·rw [h2] at h; cases h
 ·rw [h2] at h
  obtain ⟨hi, e⟩ := List.getElem?_eq_some_iff.mp h2;rw [List.getElem_range] at e;rw [List.length_range] at hi;simp only [map_some, Option.some.injEq] at h;omega
theorem xy {a b : List Int} : (Py.ok (TT.rM rI) a && Py.ok (rL rI) b && decide (min (Py.k (TT.rM rI)) (Py.k (rL rI)) <= 50)) = true := by
 have h1 : ∀ a : List Int, Py.ok (TT.rM rI) a = true := fun a => List.all_eq_true.mpr fun _ _ => rfl
 have h2 : ∀ a : List Int, Py.ok (rL rI) a = true := fun a => List.all_eq_true.mpr fun _ _ => rfl
 rw [h1, h2]; rfl
theorem yX {a b : List Int} : (Py.ok (rL rI) a && Py.ok (rL rI) b && decide (min (Py.k (rL rI)) (Py.k (rL rI)) <= 50)) = true := xy
theorem CH {a b : List Int} : (Py.ok (rL rI) a && Py.ok (TT.rM rI) b && decide (min (Py.k (rL rI)) (Py.k (TT.rM rI)) <= 50)) = true := xy
theorem EV (v : List Int) : tL (fun a b : Int => a == b) v v = true := tK (fun a => by simp) v
theorem wO {v : List Int} (hl : v.length <= 1000) : pi (v, v, ()) = some (true, v, v, ()) := by
 have h0 : gZ ([] : List Int).length = true := gY (by simp);unfold pi p0;simp only [TT.tSeq, bind_some, map_some, FC, Bool.not_true, Bool.false_eq_true, if_false, aq CH, EV];rw [aq (gY hl), xG (f := fun x => x) (p := fun _ => false) (fun x _ => by simp only [FB, FA, map_some, bind_some, Bool.false_eq_true, if_false]; rfl) (fun x _ h => by cases h)];have e : (v.filter fun _ => false).map (fun x => x) = [] := by simp
 simp only [e, bind_some, if_true, map_some, aq h0, aq yX];rfl
theorem yH {q k : Int} {j : Nat} (h : (rng 1 q)[j]? = some k) : k = ((j + 1 : Nat) : Int) /\ k < q := by
 unfold rng at h;rw [List.getElem?_map] at h;rcases h2 : (List.range (q - 1).toNat)[j]? with _ | i
 ·rw [h2] at h; cases h
 ·rw [h2] at h
  obtain ⟨hi, e⟩ := List.getElem?_eq_some_iff.mp h2;rw [List.getElem_range] at e;rw [List.length_range] at hi;simp only [map_some, Option.some.injEq] at h;omega
theorem yG (q : Int) : (rng 1 q).length = (q - 1).toNat := by simp [rng]
theorem AG {n : Nat} (hn : 1 <= n /\ n <= 4) (ns : List Int) (st : Nat) : ∃ row, rK (ns, (st : Int), (n : Int), ()) = some (row, ns, (st : Int), (n : Int), ()) /\ Rk (2 ^ n - 1) row := by
 have h0 : gZ ([] : List Int).length = true := gY (by simp);have hN : 2 ^ n <= 2 ^ 4 := Nat.pow_le_pow_right dC hn.2;have hP : 1 <= 2 ^ n := Nat.pos_of_ne_zero (by simp);have ep : (1 : Int) * 2 ^ (n : Int).toNat = ((2 ^ n : Nat) : Int) := by rw [Int.toNat_natCast, Int.one_mul]; simp
 have hd : decide ((0 : Int) <= (n : Int) /\ (n : Int) <= 1000000 /\ Int.natAbs 1 < 2 ^ 64) = true := decide_eq_true ⟨by omega, by omega, by decide⟩;have hr : (iE 1 && iE ((2 ^ n : Nat) : Int)) = true := by rw [wQ oM oM, wQ oM oM]; rfl
 unfold rK t4;simp only [TT.tSeq, bind_some, map_some, aq h0, aq hd, ep, aq hr];refine kf (S := cM) (P := fun s => s.yscript = ns /\ s.ystart = (st : Int) /\ s.yn = (n : Int) /\ Rk (2 ^ n - 1) s.yrow_here) (fun o => ∃ row, o = some (row, ns, (st : Int), (n : Int), ()) /\ Rk (2 ^ n - 1) row) ?_ ?_
 ·refine jl (S := cM) (fun k s => s.yscript = ns /\ s.ystart = (st : Int) /\ s.yn = (n : Int) /\ Rk k s.yrow_here) ⟨rfl, rfl, rfl, ⟨rfl, fun x hx => by cases hx⟩⟩ ?_ (fun s q => ⟨q.1, q.2.1, q.2.2.1, by have := q.2.2.2; rw [yG] at this; rw [show 2 ^ n - 1 = (((2 ^ n : Nat) : Int) - 1).toNat by omega]; exact this⟩)
  rintro j ⟨x1, x2, x3, x4, x5, x6⟩ g hg ⟨f1, f2, f3, f4⟩;dsimp only at f1 f2 f3 f4;subst f1; subst f2; subst f3;obtain ⟨rfl, hgl⟩ := yH hg;obtain ⟨p, ep, lp⟩ := xj x1 (st + (j + 1));rw [show ((st + (j + 1) : Nat) : Int) = (st : Int) + ((j + 1 : Nat) : Int) by omega] at ep;obtain ⟨v, p2, en, lp2, hv⟩ := sL lp;obtain ⟨d, p3, ed, lp3, d0, d1⟩ := i6 lp2 (m := 3) oM;show Bd _ _;refine Bd.seqE (by simp only [ep, map_some]; rfl) ?_;simp only [en, ed, map_some, bind_some];rw [aq (jk (by split <;> omega))];simp only [map_some, bind_some];have hl4 := f4.l;rw [aq (sP oM)];refine ⟨_, rfl, rfl, rfl, rfl, ⟨by show (x4 ++ [_]).length = j + 1; rw [List.length_append, hl4]; rfl, ?_⟩⟩;intro x hx;have hx' : x ∈ x4 ++ [v * (if decide (0 < d) = true then 1 else 0)] := hx;rcases List.mem_append.mp hx' with hx' | hx'
  ·exact f4.b x hx'
  ·rw [List.mem_singleton.mp hx']
   split
   ·rw [Int.mul_one]; exact hv
   ·rw [Int.mul_zero]; decide
 ·rintro ⟨x1, x2, x3, x4, x5, x6⟩ ⟨f1, f2, f3, f4⟩
  dsimp only at f1 f2 f3 f4;subst f1; subst f2; subst f3;exact ⟨x4, rfl, f4⟩
end LW
namespace TX
open PySem
theorem uU {m : Nat} (h : 1 <= m) : (cf (-(m : Int))).cps.toList = 45 :: (cf (m : Int)).cps.toList := by
 obtain ⟨k, rfl⟩ : ∃ k, m = k + 1 := ⟨m - 1, by omega⟩;have e : (-(((k + 1 : Nat)) : Int)) = Int.negSucc k := rfl;rw [e, gy];show (Str.ofString (toString (Int.negSucc k))).cps.toList = _;rw [PyProof.Rows.signs_ofString];show (("-" ++ Nat.repr (k + 1) : String)).toList.map Char.toNat = _;rw [String.toList_append, List.map_append, Nat.toList_repr];rfl
end TX
namespace LW
open PySem L2 DD TT TX
theorem yI {m : Nat} (h1 : 1 <= m) (h : m < 10 ^ 40) : cJ (cf (-(m : Int)), ()) = some (-(m : Int), cf (-(m : Int)), ()) := by
 obtain ⟨c, r, hx, hc⟩ := kK h1;have hd := eU m;have hl := gx h;have hn := uU h1;have hlx : (cf (m : Int)).length = r.length + 1 := by rw [bc, hx]; rfl
 have hln : (cf (-(m : Int))).length = (cf (m : Int)).length + 1 := by rw [bc, hn, List.length_cons, <- bc]
 have e1 : Txt.startswith (cf (-(m : Int))) (Str.ofString "-") = true := by
  rw [kE kt, hn]; rfl
 have esl : Txt.slice (cf (-(m : Int))) (some 1) none = cf (m : Int) := by
  apply ext';rw [show (some (1 : Int)) = some ((1 : Nat) : Int) from rfl, kF oM, hn];rfl
 have d1 : decide (((cf (m : Int)).length : Int) < 1) = false := decide_eq_false oM;have d2 : decide ((2000 : Int) < ((cf (m : Int)).length : Int)) = false := decide_eq_false oM;have a1 : ((cf (m : Int)).cps.all fun c => decide (c < 128)) = true := by
  rw [<- Array.all_toList, List.all_eq_true];intro c hc
  have := hd c hc
  exact decide_eq_true oM
 have hs : (signs (cf (m : Int))).length = (cf (m : Int)).length := by unfold signs; rw [List.length_map, <- bc]
 have all1 : ((signs (cf (m : Int))).map fun y => !(Builtin.Str.occurrences (Str.ofString "0123456789") y 0 (Str.ofString "0123456789").length 1).isEmpty).all id = true := by
  rw [List.all_map, List.all_eq_true];intro y hy;unfold signs at hy;obtain ⟨c', hc', rfl⟩ := List.mem_map.mp hy;exact xT (hd c' hc')
 have at0 : qq (cf (m : Int)) 0 = some ⟨#[c]⟩ := by
  unfold qq;rw [if_pos (uC oM), hx];show (L2.atI (c :: r) ((0 : Nat) : Int)).map _ = _;rw [L2.atI_nat (show (c :: r)[0]? = some c from rfl)];rfl
 have ne0 : ((⟨#[c]⟩ : Str) == Str.ofString "0") = false := i9 (by rw [m6]; show [c] ≠ [48]; intro h; injection h; omega);have o0 : (Py.ok TT.rS (⟨#[c]⟩ : Str) && Py.ok TT.rS (Str.ofString "0") && decide (min (Py.k TT.rS) (Py.k TT.rS) <= 50)) = true := gp (fun d h => by
  have : d = c := by simpa using h
  omega) (jm m6 dC)
 have hi : intText? (cf (-(m : Int))) = some (-(m : Int)) := by
  have e := PySem.intText_neg hn hd (sM m) oM;rw [gy, PySem.W.KIN.val_back] at e;exact e
 have hl6 : decide ((cf (-(m : Int))).length <= 640) = true := decide_eq_true oM;unfold cJ gj;simp only [TT.tSeq, bind_some, map_some, e1, if_true];rw [aq (eK (show (cf (-(m : Int))).length <= 100000 by omega))];have hsz : (if (cf (m : Int)).length <= sizeLine then some ((cf (m : Int)).length : Int) else none) = some ((cf (m : Int)).length : Int) := if_pos (uC oM);simp only [bind_some, map_some, esl, hsz, d1, d2, Bool.false_eq_true, if_false, aq a1];rw [aq (gY oM), n4 (f := fun y => !(Builtin.Str.occurrences (Str.ofString "0123456789") y 0 (Str.ofString "0123456789").length 1).isEmpty) (fun _ _ => rfl) (fun _ _ => rfl)];simp only [bind_some, map_some, all1, Bool.not_true, Bool.false_eq_true, if_false, at0, aq o0, ne0, hi, aq hl6]
theorem B0 : cJ (cf 0, ()) = some (0, cf 0, ()) := by
 have : decide (cJ (cf 0, ()) = some (0, cf 0, ())) = true := by decide +kernel
 exact of_decide_eq_true this
theorem yJ {x : Int} (h : x.natAbs < 10 ^ 40) : gA (cf x, ()) = some (x, cf x, ()) := by
 refine uJ ?_ h;rcases Int.lt_trichotomy x 0 with hx | hx | hx
 ·obtain ⟨m, rfl⟩ : ∃ m : Nat, x = -(m : Int) := ⟨x.natAbs, by omega⟩
  exact yI oM (by simpa using h)
 ·subst hx; exact B0
 ·obtain ⟨m, rfl⟩ : ∃ m : Nat, x = (m : Int) := ⟨x.natAbs, by omega⟩
  exact si oM (by simpa using h)
theorem pG {x : Int} (h : x.natAbs < 10 ^ 40) : (∀ c ∈ (cf x).cps.toList, c = 45 \/ (48 <= c /\ c <= 57)) /\ (cf x).length <= 41 := by
 rcases Int.lt_trichotomy x 0 with hx | hx | hx
 ·obtain ⟨m, rfl⟩ : ∃ m : Nat, x = -(m : Int) := ⟨x.natAbs, by omega⟩
  have hm : m < 10 ^ 40 := by simpa using h
  have hn := uU (m := m) oM;refine ⟨fun c hc => ?_, ?_⟩
  ·rw [hn] at hc
   rcases List.mem_cons.mp hc with hc | hc
   ·exact .inl hc
   ·exact .inr (eU m c hc)
  ·rw [bc, hn, List.length_cons, <- bc]
   have := gx hm
   omega
 ·subst hx
  exact ⟨fun c hc => .inr (eU 0 c hc), Nat.le_trans (gx (m := 0) dC) dC⟩
 ·obtain ⟨m, rfl⟩ : ∃ m : Nat, x = (m : Int) := ⟨x.natAbs, by omega⟩
  exact ⟨fun c hc => .inr (eU m c hc), Nat.le_trans (gx (by simpa using h)) dC⟩
end LW
namespace TX
open PySem PySem.StrLaws
theorem n9 {Y a : List Nat} : ∀ {ps : List (List Nat)}, ps ≠ [] -> cA Y (ps ++ [a]) = cA Y ps ++ (Y ++ a) := by
 intro ps
 induction ps with
 | nil => intro h; exact absurd rfl h
 | cons p ps ih =>
  intro _;cases ps with
  | nil => rfl
  | cons q r =>
   have i := ih (by simp);show p ++ (Y ++ cA Y ((q :: r) ++ [a])) = (p ++ (Y ++ cA Y (q :: r))) ++ (Y ++ a);rw [i]; simp only [List.append_assoc]
end TX
namespace LW
open PySem L2 DD TT TX
noncomputable def Ws : List En -> List Str
 | [] => [Str.ofString "0"]
 | e :: es => (dN e.2 ++ db e.2) :: dU e.1.toNat :: cz (es.map pc)
theorem Af (es : List En) : Ws es ≠ [] := by cases es <;> simp [Ws]
theorem nT (row : List Int) : shown row = Txt.join (Str.ofString " ") (Ws (nz (bC 1 row))) := by
 apply ext';rw [gu, jO];unfold shown;rcases nz (bC 1 row) with _ | ⟨e, es⟩
 ·rw [if_pos rfl]; rfl
 ·rw [if_neg (by simp)]
  have hb := mO es e;unfold body at hb;rw [gu, jO] at hb;have h2 : ((pc e).2 ++ cz (es.map pc)).map (fun p => p.cps.toList) = (db e.2).cps.toList :: (dU e.1.toNat).cps.toList :: ((cz (es.map pc)).map fun p => p.cps.toList) := rfl;rw [h2] at hb;have h3 : cA [32] ((db e.2).cps.toList :: (dU e.1.toNat).cps.toList :: ((cz (es.map pc)).map fun p => p.cps.toList)) = (db e.2).cps.toList ++ ([32] ++ cA [32] ((dU e.1.toNat).cps.toList :: ((cz (es.map pc)).map fun p => p.cps.toList))) := rfl;rw [h3] at hb;show (dN e.2 ++ tm e ++ cY es).cps.toList = (dN e.2 ++ db e.2).cps.toList ++ ([32] ++ cA [32] ((dU e.1.toNat).cps.toList :: ((cz (es.map pc)).map fun p => p.cps.toList)));rw [aS, aS, aS, List.append_assoc, <- hb, List.append_assoc]
structure Wk (w : Str) : Prop where
 nb : 32 ∉ w.cps.toList
 ln : w.length <= 100
 ok : ∀ c ∈ w.cps.toList, c < 128
theorem zG {N : Nat} (hN : N <= 15) {es : List En} (h : ∀ e ∈ es, Ek N e) : ∀ w ∈ Ws es, Wk w := fun w hw => by
 cases es with
 | nil =>
  have : w = Str.ofString "0" := by simpa [Ws] using hw
  subst this;exact ⟨by rw [m6]; decide, by decide +kernel, fun c hc => by rw [m6] at hc; simp at hc; omega⟩
 | cons e es =>
  have ee := h e (by simp);have hps : ∀ p ∈ es.map pc, Pk p := fun p hp => by
   obtain ⟨e', he', rfl⟩ := List.mem_map.mp hp;exact nW (h e' (by simp [he'])) hN
  rcases List.mem_cons.mp hw with rfl | hw
  ·have hd := eU e.2.natAbs
   have cs : ∀ c ∈ (dN e.2 ++ db e.2).cps.toList, c = 45 \/ (48 <= c /\ c <= 57) := fun c hc => by
    rcases i3 hc with hc | hc
    ·unfold dN at hc
     split at hc
     ·rw [kt] at hc; simp at hc; exact .inl hc
     ·rw [jN] at hc; cases hc
    ·exact .inr (hd c hc)
   have l1 := qT ee.b;have l2 : (dN e.2).length <= 1 := by unfold dN; split <;> decide +kernel
   exact ⟨fun hc => by have := cs _ hc; omega, by rw [aU]; omega, fun c hc => by have := cs c hc; omega⟩
  ·rcases List.mem_cons.mp hw with rfl | hw
   ·have := wB (ee.gk hN)
    exact ⟨this.nb, this.ln, this.ok⟩
   ·have := sf hps w hw
    exact ⟨this.1, this.2.1, this.2.2⟩
theorem wA {N : Nat} (hN : N <= 15) {es : List En} (h : ∀ e ∈ es, Ek N e) (hl : es.length <= 15) : (Ws es).length <= 100 := by
 cases es with
 | nil => show 1 <= 100; decide
 | cons e es =>
  have hps : ∀ p ∈ es.map pc, Pk p := fun p hp => by
   obtain ⟨e', he', rfl⟩ := List.mem_map.mp hp;exact nW (h e' (by simp [he'])) hN
  have := qb hps
  rw [List.length_map] at this;simp only [List.length_cons] at hl;show (cz (es.map pc)).length + 1 + 1 <= 100;omega
theorem BK {x : Int} (h : x.natAbs < 10 ^ 40) : Wk (cf x) := by
 obtain ⟨h1, h2⟩ := pG h;exact ⟨fun hc => by have := h1 _ hc; omega, by omega, fun c hc => by have := h1 c hc; omega⟩
noncomputable def sT (g : Str) : Str := if (g == Str.ofString "=") = true then Str.ofString "=" else Str.ofString ">="
theorem Dz (g : Str) : Wk (sT g) := by
 unfold sT;split
 ·exact ⟨by decide +kernel, by decide +kernel, fun c hc => by rw [show (Str.ofString "=").cps.toList = [61] by decide +kernel] at hc; simp at hc; omega⟩
 ·exact ⟨by decide +kernel, by decide +kernel, fun c hc => by rw [show (Str.ofString ">=").cps.toList = [62, 61] by decide +kernel] at hc; simp at hc; omega⟩
noncomputable def kT (row : List Int) (g : Str) (x : Int) : List Str := Ws (nz (bC 1 row)) ++ [sT g] ++ [cf x]
noncomputable def j6 (row : List Int) (g : Str) (x : Int) : Str := shown row ++ Str.ofString " " ++ sT g ++ Str.ofString " " ++ cf x
theorem nu (row : List Int) (g : Str) (x : Int) : j6 row g x = Txt.join (Str.ofString " ") (kT row g x) := by
 apply ext';rw [gu, jO];unfold j6 kT;rw [List.map_append, List.map_append];show _ = cA [32] (((Ws (nz (bC 1 row))).map fun p => p.cps.toList) ++ [(sT g).cps.toList] ++ [(cf x).cps.toList]);rw [n9 (by simp), n9 (by simp [Af]), nT];simp only [aS, gu, jO, List.append_assoc]
section
variable {N : Nat} {row : List Int} {x : Int}
theorem rh (hN : N <= 15) (r : Rk N row) (hx : x.natAbs < 10 ^ 40) (g : Str) : ∀ w ∈ kT row g x, Wk w := fun w hw => by
 unfold kT at hw;rcases List.mem_append.mp hw with hw | hw
 ·rcases List.mem_append.mp hw with hw | hw
  ·exact zG hN (jG r) w hw
  ·rw [List.mem_singleton.mp hw]; exact Dz g
 ·rw [List.mem_singleton.mp hw]; exact BK hx
theorem pb (hN : N <= 15) (r : Rk N row) (g : Str) : (kT row g x).length <= 102 /\ 3 <= (kT row g x).length := by
 have hlen : (nz (bC 1 row)).length <= 15 := by have := jj (bC 1 row); rw [fM, r.l] at this; omega
 have h1 := wA hN (jG r) hlen;have h2 : 1 <= (Ws (nz (bC 1 row))).length := List.length_pos_iff.mpr (Af _);unfold kT;rw [List.length_append, List.length_append, List.length_singleton, List.length_singleton];omega
theorem p9 (hN : N <= 15) (r : Rk N row) (hx : x.natAbs < 10 ^ 40) (g : Str) : Txt.split (j6 row g x) (Str.ofString " ") = kT row g x := by
 rw [nu];exact nS (m := 32) (off := 0) (by rw [bc, jO]; decide) (by rw [jO]; rfl) (fun k e => by
  rw [jO] at e
  match k, e with
  | 0, _ => rfl
  | k + 1, e => simp at e) (by decide +kernel) (by
   intro e;have h3 := (pb (x := x) hN r g).2;rw [e] at h3;simp at h3) (fun w hw => (rh hN r hx g w hw).nb)
theorem AA (hN : N <= 15) (r : Rk N row) (hx : x.natAbs < 10 ^ 40) (g : Str) : g6 (j6 row g x) (Str.ofString " ") = true := by
 have h := p9 hN r hx g;rw [nu] at h ⊢;exact uD (b := 100) (n := 200) (by rw [lE]; rfl) h (fun w hw => (rh hN r hx g w hw).ln) (by have := (pb (x := x) hN r g).1; omega) (by rw [lE]; decide) dC
theorem wH (hN : N <= 15) (r : Rk N row) (hx : x.natAbs < 10 ^ 40) (g : Str) : ∀ c ∈ (j6 row g x).cps.toList, c < 1114112 := fun c hc => by
 rw [nu] at hc;rcases sV hc with hc | ⟨w, hw, hc⟩
 ·rw [jO] at hc; simp at hc; omega
 ·have := (rh hN r hx g w hw).ok c hc; omega
end
theorem Dg {α : Type} (T : List α) (a b : α) : jB (T ++ [a] ++ [b]) none (some (-2)) = T := by
 unfold jB;have hl : (T ++ [a] ++ [b]).length = T.length + 2 := by simp
 rw [hl];have h2 : HT.sIx (T.length + 2) (T.length + 2) (some (-2)) = T.length := by
  show (if (-2 : Int) < 0 then ((-2 : Int) + ((T.length + 2 : Nat) : Int)).toNat else min (-2 : Int).toNat (T.length + 2)) = _;rw [if_pos dC]; omega
 rw [HT.sIx_none, h2, List.drop_zero, Nat.sub_zero, List.append_assoc, List.take_left]
theorem EI {α : Type} (T : List α) (a b : α) : L2.atI (T ++ [a] ++ [b]) (-2) = some a := by
 have hl : (T ++ [a] ++ [b]).length = T.length + 2 := by simp
 have h1 : L2.ixN (T.length + 2) (-2) = some T.length := by
  unfold L2.ixN;rw [if_neg dC, if_pos oM];congr 1;omega
 unfold L2.atI;rw [hl, h1, bind_some];simp
theorem EJ {α : Type} (T : List α) (b : α) : L2.atI (T ++ [b]) (-1) = some b := L2.atI_last T b
noncomputable def lL (g : Str) : Prop := g = Str.ofString "=" \/ g = Str.ofString ">"
theorem EY : (Str.ofString "=").cps.toList = [61] := by decide +kernel
theorem EX : (Str.ofString ">").cps.toList = [62] := by decide +kernel
theorem pq {g : Str} (h : lL g) : ∀ c ∈ g.cps.toList, c < 1114112 := fun c hc => by
 rcases h with rfl | rfl
 ·rw [EY] at hc; simp at hc; omega
 ·rw [EX] at hc; simp at hc; omega
theorem ui {g : Str} (h : lL g) : hU (sT g, ()) = some (g, sT g, ()) := by
 have h1 : decide (hU (sT (Str.ofString "="), ()) = some (Str.ofString "=", sT (Str.ofString "="), ())) = true := by decide +kernel
 have h2 : decide (hU (sT (Str.ofString ">"), ()) = some (Str.ofString ">", sT (Str.ofString ">"), ())) = true := by decide +kernel
 rcases h with rfl | rfl
 ·exact of_decide_eq_true h1
 ·exact of_decide_eq_true h2
theorem BY (g : Str) : (sT g).length <= 2 := by unfold sT; split <;> decide +kernel
section
variable {n N : Nat} {row : List Int} {x : Int} {g : Str}
theorem uF (hN : N <= 15) (r : Rk N row) : (shown row).length <= 1100 := by
 unfold shown;split
 ·decide +kernel
 ·have h1 := uE hN (jG r)
  have := jj (bC 1 row)
  rw [fM, r.l] at this;omega
theorem qB (hN : N <= 15) (r : Rk N row) (hx : x.natAbs < 10 ^ 40) (hg : lL g) (m : Int) : iC (m, (row, g, x), ()) = some (j6 row g x, m, (row, g, x), ()) := by
 have o1 : (Py.ok TT.rS g && Py.ok TT.rS (Str.ofString "=") && decide (min (Py.k TT.rS) (Py.k TT.rS) <= 50)) = true := gp (pq hg) (jm EY dC);have l1 := uF hN r;have l2 := BY g;have l3 := (pG hx).2;have hs : (if (g == Str.ofString "=") = true then some (Str.ofString "=", ({ xn := m, xsaying := (row, g, x), xrow := shown row, xsign := Str.ofString "", xnumber := 0 } : bB)) else some (Str.ofString ">=", { xn := m, xsaying := (row, g, x), xrow := shown row, xsign := Str.ofString "", xnumber := 0 })) = some (sT g, { xn := m, xsaying := (row, g, x), xrow := shown row, xsign := Str.ofString "", xnumber := 0 }) := by
  unfold sT; split <;> rfl
 unfold iC iG;simp only [TT.tSeq, bind_some, map_some];rw [vJ hN r];simp only [bind_some, map_some, aq o1];rw [hs];simp only [bind_some, map_some];rw [aq (eK (show (shown row).length <= 100000 by omega))];simp only [bind_some, map_some, uV, aq (xF hx)];have q1 : (shown row).length <= 100000 := by omega
 have q2 : (shown row ++ Str.ofString " ").length <= 100000 := by rw [aU, lE]; omega
 have q3 : (sT g).length <= 100000 := by omega
 have q4 : (shown row ++ Str.ofString " " ++ sT g).length <= 100000 := by rw [aU, aU, lE]; omega
 have q5 : (shown row ++ Str.ofString " " ++ sT g ++ Str.ofString " ").length <= 100000 := by rw [aU, aU, aU, lE]; omega
 have q6 : (shown row ++ Str.ofString " " ++ sT g ++ Str.ofString " " ++ Str.ofString (toString x)).length <= 100000 := by
  show (shown row ++ Str.ofString " " ++ sT g ++ Str.ofString " " ++ cf x).length <= 100000;rw [aU, aU, aU, aU, lE]; omega
 simp only [aq (eK q1), aq (eK q2), aq (eK q3), aq (eK q4), aq (eK q5), aq (eK q6), aq (xF hx), bind_some, map_some];rfl
theorem qF (f : Fk n N) (r : Rk N row) (hx : x.natAbs < 10 ^ 40) (hg : lL g) : iD ((n : Int), j6 row g x, ()) = some ((row, g, x), (n : Int), j6 row g x, ()) := by
 have hN := f.nn.l;have hl3 : decide (((kT row g x).length : Int) < 3) = false := decide_eq_false (by have := (pb (x := x) hN r g).2; omega);have hlen : (nz (bC 1 row)).length <= 15 := by have := jj (bC 1 row); rw [fM, r.l] at this; omega
 have jc : oa (Str.ofString " ") (Ws (nz (bC 1 row))) = true := zY (b := 100) (n := 100) (fun w hw => (zG hN (jG r) w hw).ln) (wA hN (jG r) hlen) (by rw [lE]; decide);have c1 : jB (kT row g x) none (some (-2)) = Ws (nz (bC 1 row)) := Dg _ _ _;have c2 : L2.atI (kT row g x) (-2) = some (sT g) := EI _ _ _;have c3 : L2.atI (kT row g x) (-1) = some (cf x) := EJ _ _;unfold iD iH;simp only [TT.tSeq, bind_some, map_some, aq (AA hN r hx g), p9 hN r hx g, hl3, Bool.false_eq_true, if_false, c1, aq jc];rw [<- nT, wS f r];simp only [bind_some, map_some, c2, c3, ui hg, yJ hx]
theorem Fj : gZ [Str.ofString " = ", Str.ofString " >= "].length = true := gY (by simp)
theorem EH {g : Str} (hg : lL g) : ((if (g == Str.ofString ">") = true then (1 : Int) else 0) = 0 /\ Str.ofString " = " = Str.ofString " " ++ sT g ++ Str.ofString " ") \/ ((if (g == Str.ofString ">") = true then (1 : Int) else 0) = 1 /\ Str.ofString " >= " = Str.ofString " " ++ sT g ++ Str.ofString " ") := by
 rcases hg with rfl | rfl
 ·exact .inl ⟨by decide +kernel, by decide +kernel⟩
 ·exact .inr ⟨by decide +kernel, by decide +kernel⟩
theorem Gj {a b : List Int × Str × Int} (ha : ∀ c ∈ a.2.1.cps.toList, c < 1114112) (hb : ∀ c ∈ b.2.1.cps.toList, c < 1114112) : (Py.ok (du (TT.rM rI) TT.rS rI) a && Py.ok (du (TT.rM rI) TT.rS rI) b && decide (min (Py.k (du (TT.rM rI) TT.rS rI)) (Py.k (du (TT.rM rI) TT.rS rI)) <= 50)) = true := by
 have h1 : ∀ a : List Int, Py.ok (TT.rM rI) a = true := fun a => List.all_eq_true.mpr fun _ _ => rfl
 have k : ∀ a : List Int × Str × Int, (∀ c ∈ a.2.1.cps.toList, c < 1114112) -> Py.ok (du (TT.rM rI) TT.rS rI) a = true := fun a ha => by
  show (Py.ok (TT.rM rI) a.1 && Py.ok TT.rS a.2.1 && Py.ok rI a.2.2) = true;rw [h1, vI ha]; rfl
 rw [k a ha, k b hb]; rfl
theorem FY {a : Int} : gZ ([a] : List Int).length = true := gY (by simp)
theorem uI (f : Fk n N) (r : Rk N row) (hx : x.natAbs < 10 ^ 40) (hg : lL g) : nq ((n : Int), row, g, x, ()) = some (true, (n : Int), row, g, x, ()) := by
 have hN := f.nn.l;have hl := r.l;have r2 : iE 2 = true := wQ oM oM;have o1 : (Py.ok TT.rS g && Py.ok TT.rS (Str.ofString ">") && decide (min (Py.k TT.rS) (Py.k TT.rS) <= 50)) = true := gp (pq hg) (jm EX dC);have o2 : (Py.ok TT.rS (j6 row g x) && Py.ok TT.rS (j6 row g x) && decide (min (Py.k TT.rS) (Py.k TT.rS) <= 50)) = true := gp (wH hN r hx g) (wH hN r hx g);have o3 : (Py.ok TT.rS g && Py.ok TT.rS g && decide (min (Py.k TT.rS) (Py.k TT.rS) <= 50)) = true := gp (pq hg) (pq hg);have l1 := uF hN r;have l2 := BY g;have l3 := (pG hx).2;have mk : ∃ M, L2.atI [Str.ofString " = ", Str.ofString " >= "] (if (g == Str.ofString ">") = true then 1 else 0) = some M /\ M = Str.ofString " " ++ sT g ++ Str.ofString " " := by
  rcases EH hg with ⟨e1, e2⟩ | ⟨e1, e2⟩
  ·exact ⟨Str.ofString " = ", by rw [e1]; rfl, e2⟩
  ·exact ⟨Str.ofString " >= ", by rw [e1]; rfl, e2⟩
 obtain ⟨M, eM, hM⟩ := mk;have lM : M.length <= 4 := by rw [hM, aU, aU, lE]; omega
 have eS : shown row ++ M ++ Str.ofString (toString x) = j6 row g x := by
  apply ext';rw [hM];show (shown row ++ (Str.ofString " " ++ sT g ++ Str.ofString " ") ++ cf x).cps.toList = (shown row ++ Str.ofString " " ++ sT g ++ Str.ofString " " ++ cf x).cps.toList;simp only [aS, List.append_assoc]
 unfold nq nP;simp only [TT.tSeq, bind_some, map_some];rw [qB hN r hx hg];simp only [bind_some, map_some, Fy, Bool.not_true, Bool.false_eq_true, if_false, uq hN r, aq Fj, aq o1, eM];rw [aq (eK (show (shown row).length + M.length <= 100000 by omega))];simp only [bind_some, map_some, aq (xF hx)];rw [aq (eK (show (shown row ++ M).length + (Str.ofString (toString x)).length <= 100000 by show (shown row ++ M).length + (cf x).length <= _; rw [aU]; omega)), eS];simp only [bind_some, map_some, aq o2, beq_self_eq_true, Bool.not_true, Bool.false_eq_true, if_false, aq r2];refine kf (S := av) (P := fun s => s.yn = (n : Int) /\ s.yrow_here = row /\ s.ysign = g /\ s.ynumber_here = x /\ s.yhanded = (row, g, x) /\ s.ytext = j6 row g x) (fun o => o = some (true, (n : Int), row, g, x, ())) ?_ ?_
 ·refine nH (S := av) (I := fun s => s.yn = (n : Int) /\ s.yrow_here = row /\ s.ysign = g /\ s.ynumber_here = x /\ s.yhanded = (row, g, x) /\ s.ytext = j6 row g x) ?_ ⟨rfl, rfl, rfl, rfl, rfl, rfl⟩
  rintro ⟨x1, x2, x3, x4, x5, x6, x7, x8⟩ y hy ⟨f1, f2, f3, f4, f5, f6⟩;dsimp only at f1 f2 f3 f4 f5 f6;subst f1; subst f2; subst f3; subst f4; subst f5; subst f6;show Bd _ _;refine Bd.seqE (by simp only [qF f r hx hg, map_some]; rfl) ?_;refine Bd.seqE (by
   simp only [Fx, wO (v := x2) oM, map_some, bind_some, Bool.not_true, Bool.false_eq_true, if_false, aq nE, aq o3, beq_self_eq_true];rfl) ?_
  refine Bd.seqE (by
   simp only [aq FY, wO (v := [x4]) (by simp), map_some, bind_some, Bool.not_true, Bool.false_eq_true, if_false];rfl) ?_
  exact ⟨_, rfl, rfl, rfl, rfl, rfl, rfl, rfl⟩
 ·rintro ⟨x1, x2, x3, x4, x5, x6, x7, x8⟩ ⟨f1, f2, f3, f4, f5, f6⟩
  dsimp only at f1 f2 f3 f4 f5 f6;subst f1; subst f2; subst f3; subst f4; subst f5; subst f6;dsimp only;rw [aq (Gj (a := (x2, x3, x4)) (b := (x2, x3, x4)) (pq hg) (pq hg))];simp only [EV, beq_self_eq_true, Bool.and_self, map_some, bind_some]
end
theorem Ga (N : Nat) : Rk N (List.replicate N 0) := ⟨List.length_replicate, fun x hx => by rw [List.eq_of_mem_replicate hx]; decide⟩
theorem Fm : gZ [Str.ofString "=", Str.ofString ">"].length = true := gY (by simp)
theorem law_t (ns : List Int) (hl : ns.length <= 63) : ∃ q, vG (ns, ()) = some (true, q) := by
 have r4' : iE 4 = true := wQ oM oM;unfold vG wu;simp only [TT.tSeq, bind_some, map_some, aq r4'];refine kf (S := cg) (P := fun s => s.yscript = ns) (fun o => ∃ q, o = some (true, q)) ?_ ?_
 ·refine jl (S := cg) (fun j s => s.yscript = ns) rfl ?_ (fun s q => q)
  rintro j ⟨a1, a2, a3, a4, a5, a6, a7⟩ x hx hi;dsimp only at hi;subst hi;obtain ⟨rfl, hj⟩ := yF hx;have hm : gM 16 (j : Int) = true := jk oM;obtain ⟨p, ep, lp⟩ := xj a1 (16 * j);rw [show ((16 * j : Nat) : Int) = 16 * (j : Int) by omega] at ep;obtain ⟨d, p2, ed, lp2, d0, d1⟩ := i6 lp (m := 4) oM;obtain ⟨v, p3, ev, lp3, hv⟩ := sL lp2;obtain ⟨n, hn⟩ : ∃ n : Nat, 1 + d = (n : Int) := ⟨(1 + d).toNat, by omega⟩;have hn4 : 1 <= n /\ n <= 4 := by omega
  obtain ⟨row, er, rk⟩ := AG hn4 a1 (16 * j);rw [show ((16 * j : Nat) : Int) = 16 * (j : Int) by omega] at er;have f := EE hn4;have hN := f.nn.l;have rl := rk.l;show Bd _ _;refine Bd.seqE (by simp only [aq hm, ep, map_some, bind_some]; rfl) ?_;refine Bd.seqE (by simp only [ed, hn, map_some, bind_some]; rfl) ?_;refine Bd.seqE (by simp only [aq hm, er, map_some, bind_some]; rfl) ?_;refine Bd.seqE (by simp only [ev, map_some, bind_some]; rfl) ?_;have rp : nw ([0] : List Int).length (row.length : Int) = true := vN oM;have er0 : (List.replicate (row.length : Int).toNat ([0] : List Int)).flatten = List.replicate (2 ^ n - 1) 0 := by rw [Int.toNat_natCast, wl, rl]
  simp only [aq Fm, bind_some];refine (nH (S := cg) (I := fun s => s.yscript = a1 /\ s.yn = (n : Int) /\ s.yrow_here = row /\ s.ynumber_here = v) ?_ ⟨rfl, rfl, rfl, rfl⟩).imp fun s h => ⟨h.1, h.2.1⟩
  rintro ⟨b1, b2, b3, b4, b5, b6, b7⟩ g hg' ⟨f1, f2, f3, f4⟩;dsimp only at f1 f2 f3 f4;subst f1; subst f2; subst f3; subst f4;have hg : lL g := by simpa [lL] using hg'
  simp only [uI f rk hv hg, map_some, bind_some, Bool.not_true, Bool.false_eq_true, if_false, aq BR, aq rp, er0, uI f (Ga (2 ^ n - 1)) hv hg];exact ⟨_, rfl, rfl, rfl, rfl, rfl⟩
 ·rintro ⟨a1, a2, a3, a4, a5, a6, a7⟩ hs
  exact ⟨_, rfl⟩
theorem holds : ∀ ns : List Int, ns.length <= 63 -> ∃ d, jK [.lst false (ns.map D.int)] = some (.bl true, [d]) := zj Eu law_t
end LW
def PySem.W.Fast.tw13928983952372139733:=()
def PySem.W.Fast.tw15035355260141765452:=()
def PySem.W.Fast.tw9188306421977208004:=()
def PySem.W.Fast.tw14930772828929841945:=()
def PySem.W.Fast.tw10516721023693961418:=()
def PySem.W.Fast.tw13604902357102912427:=()
def PySem.W.Fast.tw10733652957411550867:=()
def PySem.W.Fast.tw2490716803639617629:=()
def PySem.W.Fast.tw5303521932849914876:=()
def PySem.W.Fast.tw14198974600520385684:=()
def PySem.W.Fast.tw13582960122157689758:=()
def PySem.W.Fast.tw14071787590007761286:=()
def PySem.W.Fast.tw14462108272686823497:=()
def PySem.W.Fast.tw14323153251433074614:=()
def PySem.W.Fast.tw14064943602918627673:=()
def PySem.W.Fast.tw7036931486598519619:=()
open PySem PySem.W PyProof.Rows
set_option maxRecDepth 100000 in
set_option maxHeartbeats 0 in
theorem PySem.Challenge.cw_telltight_k74_sayings_as_texts_holds : PySem.Challenge.rw_telltight_k74_sayings_as_texts.Holds := by
 w_on; o_law; k_head; (case hw => w_witness2)
 k_fill
 refine LW.E7 (l := PySem.Challenge.rw_telltight_k74_sayings_as_texts) rfl rfl (fun w h Y => kIn_of Y) LW.holds ?F
 case F =>
  intro w mg fa h KX G hmg;refine' LW.Dk KX G hmg ?a0 ?l0 ?c0 ?k0 ?a1 ?l1 ?c1 ?k1 ?a2 ?l2 ?c2 ?k2 ?a3 ?l3 ?c3 ?k3 ?a4 ?l4 ?c4 ?k4 ?a5 ?l5 ?c5 ?k5 ?a6 ?l6 ?c6 ?k6 ?a7 ?l7 ?c7 ?k7 ?a8 ?l8 ?c8 ?k8 ?a9 ?l9 ?c9 ?k9 ?a10 ?l10 ?c10 ?k10 ?a11 ?l11 ?c11 ?k11 ?a12 ?l12 ?c12 ?k12 ?a13 ?l13 ?c13 ?k13 ?a14 ?l14 ?c14 ?k14 ?a15 ?l15 ?c15 ?k15 ?a16 ?l16 ?c16 ?k16 ?a17 ?l17 ?c17 ?k17 ?a18 ?l18 ?c18 ?k18 ?a19 ?l19 ?c19 ?k19 ?a20 ?l20 ?c20 ?k20 ?a21 ?l21 ?c21 ?k21 ?a22 ?l22 ?c22 ?k22 ?a23 ?l23 ?c23 ?k23 ?a24 ?l24 ?c24 ?k24 ?a25 ?l25 ?c25 ?k25 ?a26 ?l26 ?c26 ?k26 ?a27 ?l27 ?c27 ?k27 ?a28 ?l28 ?c28 ?k28 ?a29 ?l29 ?c29 ?k29 ?a30 ?l30 ?c30 ?k30 ?a31 ?l31 ?c31 ?k31 ?a32 ?l32 ?c32 ?k32 ?a33 ?l33 ?c33 ?k33 ?z_abs ?z_all ?z_bool ?z_enumerate ?z_int ?z_isinstance ?z_len ?z_list ?z_range ?z_str ?z_tuple ?z_zip ?v_FIGURES ?v_LETTERS ?v_MOST_FIGURES ?v_MOST_NAMES
  case a0|a1|a2|a3|a4|a5|a6|a7|a8|a9|a10|a11|a12|a13|a14|a15|a16|a17|a18|a19|a20|a21|a22|a23|a24|a25|a26|a27|a28|a29|a30|a31|a32|a33 => delta LW.dh; k_is
  case l0|l1|l2|l3|l4|l5|l6|l7|l8|l9|l10|l11|l12|l13|l14|l15|l16|l17|l18|l19|l20|l21|l22|l23|l24|l25|l26|l27|l28|l29|l30|l31|l32|l33 => delta LW.di LW.bA; k_is
  case c0|c1|c2|c3|c4|c5|c6|c7|c8|c9|c10|c11|c12|c13|c14|c15|c16|c17|c18|c19|c20|c21|c22|c23|c24|c25|c26|c27|c28|c29|c30|c31|c32|c33 => delta LW.dl; k_is
  case k0|k1|k2|k3|k4|k5|k6|k7|k8|k9|k10|k11|k12|k13|k14|k15|k16|k17|k18|k19|k20|k21|k22|k23|k24|k25|k26|k27|k28|k29|k30|k31|k32|k33 => delta LW.dj; k_is
  case z_abs|z_all|z_bool|z_enumerate|z_int|z_isinstance|z_len|z_list|z_range|z_str|z_tuple|z_zip|v_FIGURES|v_LETTERS|v_MOST_FIGURES|v_MOST_NAMES => k_is
#print axioms PySem.Challenge.cw_telltight_k74_sayings_as_texts_holds
